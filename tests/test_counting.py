"""Points 6, 8, 9, 10 and 11, and the interface of branchorders/counting.py."""

import random
import unittest
from fractions import Fraction
from math import comb, factorial

from branchorders import counting as counting_file
from branchorders.counting import average_limit, average_steps, count_inputs, nth_input
from branchorders.errors import InvalidNumber, InvalidQuery, InvalidWidth
from branchorders.programs import Program
from helpers import HUGE, BranchTestCase
from models import ENOUGH, Model, drawn_program, models_at

FUNCTIONS = (count_inputs, nth_input, average_steps, average_limit)

LEAST = Program(2, [("cmp", "p", "q"), ("jif", "be", 3), ("mov", "p", "q"), ("out", "p")])
TURN = Program(2, [("out", "p"), ("swap", "p", "q"), ("jump", 0)])

# It is endless for two different words of one sign, so not at the width 1.
SOMETIMES = Program(2, [("cmp", "p", "q"), ("jif", "e", 4), ("jif", "mixed", 4), ("jump", 3), ("stop",)])

ENDINGS = ("stop", "fault", "endless")


def ascending(inputs, condition):
    """A program that comes to its last row only if each word is less than the next one, by a condition of `less`."""
    names, rows = "pqrs"[:inputs], []
    for first, second in zip(names, names[1:]):
        rows += [("cmp", first, second), ("jif", condition, len(rows) + 3), ("stop",)]
    return Program(inputs, rows + [("stop",)])


def queries(program):
    """Queries of all six kinds."""
    found = [("all",)] + [("end", ending) for ending in ENDINGS]
    found += [("reach", row) for row in range(len(program) + 1)]
    found += [("steps", 0, 3), ("steps", 2, 2), ("steps", 4, 9), ("steps", 0, 5000), ("steps", 3, 2), ("steps", -7, -1)]
    return found + [("steps", -HUGE, HUGE)] + [("first", number) for number in range(program.inputs)]


def is_true(query, words, model):
    """Whether a query is true for a run, by the words of the document."""
    word, *items = query
    if word == "end":
        return model.ending == items[0]
    if word == "reach":
        return items[0] in model.rows_reached()
    if word == "steps":
        return model.ending != "endless" and items[0] <= len(model.trace) <= items[1]
    if word == "first":
        return model.outs != [] and model.outs[0] == words[items[0]]
    return True


def inputs_by_runs(program, width, query):
    return [words for words, model in models_at(program, width) if is_true(query, words, model)]


def programs(seed, numbers):
    drawn = random.Random(seed)
    return [drawn_program(drawn, inputs, drawn.choice((4, 7, 10))) for inputs, many in numbers for _ in range(many)]


class AllWordsTest(BranchTestCase):

    def check(self, program, width, query):
        """Returns how many words there are."""
        wanted = inputs_by_runs(program, width, query)
        self.assert_same(count_inputs(program, width, query), len(wanted))
        self.assert_same([nth_input(program, width, query, number) for number in range(len(wanted))], wanted)
        for number in (len(wanted), len(wanted) + 1, HUGE, -1, -HUGE):
            self.assert_error(InvalidNumber, number, nth_input, program, width, query, number)
        return len(wanted)

    def test_one_and_two_inputs(self):
        found = []
        for program in programs(70, ((1, 8), (2, 12))) + [LEAST, TURN, SOMETIMES, Program(2, [])]:
            for width in (1, 2, 3):
                found += [self.check(program, width, query) for query in queries(program)]
        self.assertGreater(found.count(0), 50)
        self.assertGreater(len(set(found)), 15)

    def test_three_inputs(self):
        for program in programs(71, ((3, 4),)) + [ascending(3, "b")]:
            for width in (1, 2):
                for query in queries(program):
                    self.check(program, width, query)
            for query in (("all",), ("end", "stop"), ("reach", len(program) - 1), ("steps", 2, 6), ("first", 1)):
                self.check(program, 3, query)

    def test_four_inputs(self):
        for program in programs(72, ((4, 1),)) + [ascending(4, "l")]:
            for query in queries(program):
                self.check(program, 1, query)
            for query in (("all",), ("end", "stop"), ("reach", len(program) - 1)):
                self.check(program, 2, query)

    def test_first_input_with_the_same_word(self):
        program = Program(3, [("out", "q"), ("out", "p")])
        for number in range(3):
            wanted = [(a, b, c) for a in range(4) for b in range(4) for c in range(4) if (a, b, c)[number] == b]
            self.assert_same(count_inputs(program, 2, ("first", number)), len(wanted))
            found = [nth_input(program, 2, ("first", number), index) for index in range(len(wanted))]
            self.assert_same(found, wanted)

    def test_first_output_of_endless_runs_and_faults(self):
        for rows in ([("out", "q"), ("jump", 0)], [("out", "q"), ("jump", 1)], [("out", "q"), ("jif", "e", 0)]):
            program = Program(2, rows)
            self.assert_same([count_inputs(program, 3, ("first", number)) for number in (0, 1)], [8, 64])
        for rows in ([], [("stop",), ("out", "p")], [("jif", "e", 0), ("out", "p")], [("jump", 0), ("out", "p")]):
            self.assert_same([count_inputs(Program(2, rows), 3, ("first", number)) for number in (0, 1)], [0, 0])

    def test_steps(self):
        found = [count_inputs(LEAST, 1, ("steps", low, high)) for low in range(6) for high in range(6)]
        self.assert_same(found, [
            0, 0, 0, 3, 4, 4, 0, 0, 0, 3, 4, 4, 0, 0, 0, 3, 4, 4, 0, 0, 0, 3, 4, 4, 0, 0, 0, 0, 1, 1, 0, 0, 0, 0, 0, 0,
        ])
        fault = Program(2, [("out", "p"), ("jif", "e", 0)])
        self.assert_same([count_inputs(fault, 2, ("steps", many, many)) for many in range(3)], [0, 16, 0])
        self.assert_same(count_inputs(TURN, 2, ("steps", 0, HUGE)), 0)
        self.assert_same(count_inputs(Program(2, []), 2, ("steps", 0, 0)), 16)


class GreatWidthsTest(BranchTestCase):

    def test_queries_that_exclude_one_another(self):
        for program in programs(73, ((1, 4), (2, 8), (3, 8), (4, 3))):
            for width in (4, 64, 300):
                every = 2 ** (width * program.inputs)
                self.assert_same(count_inputs(program, width, ("all",)), every)
                ends = {ending: count_inputs(program, width, ("end", ending)) for ending in ENDINGS}
                self.assertEqual(sum(ends.values()), every)
                stepped = [("steps", low, high) for low, high in ((-HUGE, 2), (3, 3), (4, 6), (7, HUGE))]
                many = sum(count_inputs(program, width, query) for query in stepped)
                self.assertEqual(many, ends["stop"] + ends["fault"])

    def test_words_fulfil_in_order(self):
        drawn = random.Random(74)
        for program in programs(75, ((1, 2), (2, 4), (3, 3), (4, 1))):
            for width in (5, 64, 300):
                for query in drawn.sample(queries(program), 6):
                    many = count_inputs(program, width, query)
                    numbers = sorted({0, 1, many // 3, many // 2, many - 2, many - 1} | {drawn.randrange(many or 1)})
                    numbers = [number for number in numbers if 0 <= number < many]
                    found = [nth_input(program, width, query, number) for number in numbers]
                    self.assertEqual(found, sorted(set(found)))
                    for words in found:
                        self.assertTrue(all(0 <= word < 2 ** width for word in words))
                        self.assertTrue(is_true(query, words, Model(program, width, words)))
                    for number in (many, HUGE, -1):
                        self.assert_error(InvalidNumber, number, nth_input, program, width, query, number)

    def test_all_words_by_their_digits(self):
        drawn = random.Random(76)
        for inputs in (1, 2, 3, 4):
            for width in (8, 64, 300):
                for _ in range(3):
                    number = drawn.randrange(2 ** (width * inputs))
                    wanted = tuple(number >> (width * place) & (2 ** width - 1) for place in reversed(range(inputs)))
                    self.assert_same(nth_input(Program(inputs, []), width, ("all",), number), wanted)

    def test_words_that_ascend(self):
        """The number of words that ascend, by how many of them come before."""
        drawn = random.Random(77)
        for condition, shift in (("b", 0), ("l", 1)):
            for inputs in (2, 3, 4):
                program = ascending(inputs, condition)
                query = ("reach", len(program) - 1)
                for width in (3, 64, 300):
                    every, half = 2 ** width, shift * 2 ** (width - 1)
                    self.assert_same(count_inputs(program, width, query), comb(every, inputs))
                    if shift:
                        continue
                    for _ in range(3):
                        number = drawn.randrange(comb(every, inputs))
                        words = nth_input(program, width, query, number)
                        self.assertEqual(list(words), sorted(set(words)))
                        # All that come later by ascending words are those that begin alike and are greater then.
                        later = sum(comb(every - 1 - word, inputs - place) for place, word in enumerate(words))
                        self.assertEqual(number, comb(every, inputs) - 1 - later)

    def test_signed_words_that_ascend(self):
        """At the width 2 the signed order is 2, 3, 0, 1, and at great widths it begins with the first negative word."""
        program = ascending(2, "l")
        found = [nth_input(program, 2, ("reach", 3), number) for number in range(6)]
        self.assert_same(found, [(0, 1), (2, 0), (2, 1), (2, 3), (3, 0), (3, 1)])
        half, query = 2 ** 299, ("reach", 3)
        pairs_not_negative = comb(half, 2)
        self.assert_same(nth_input(program, 300, query, 0), (0, 1))
        self.assert_same(nth_input(program, 300, query, pairs_not_negative - 1), (half - 2, half - 1))
        self.assert_same(nth_input(program, 300, query, pairs_not_negative), (half, 0))
        self.assert_same(nth_input(program, 300, query, pairs_not_negative + half), (half, half + 1))
        self.assert_same(nth_input(program, 300, query, comb(2 * half, 2) - 1), (2 * half - 1, half - 1))

    def test_words_between(self):
        """All pairs of words in order are those with one ending or another, each in its order."""
        width = 40
        drawn = random.Random(78)
        parts = [("end", ending) for ending in ENDINGS]
        program = Program(2, [("cmp", "p", "q"), ("jif", "b", 3), ("jump", 1), ("jif", "g", 5), ("stop",),
                              ("mov", "p", "q"), ("jump", 5)])
        counts = [count_inputs(program, width, query) for query in parts]
        for query, many in zip(parts, counts):
            for _ in range(4 if many else 0):
                number = drawn.randrange(many)
                words = nth_input(program, width, query, number)
                place = words[0] * 2 ** width + words[1]
                before = [self.count_before(program, width, other, words) for other in parts if other != query]
                self.assertEqual(sum(before) + number, place)

    def count_before(self, program, width, query, words):
        """By halving: how many words for which a query is true come before some words."""
        low, high = 0, count_inputs(program, width, query)
        while low < high:
            middle = (low + high) // 2
            if nth_input(program, width, query, middle) < words:
                low = middle + 1
            else:
                high = middle
        return low


class AverageTest(BranchTestCase):

    def average_by_runs(self, program, width):
        models = [model for _, model in models_at(program, width)]
        if any(model.ending == "endless" for model in models):
            return None
        return Fraction(sum(len(model.trace) for model in models), len(models)).as_integer_ratio()

    def test_against_all_words(self):
        found = []
        for program in programs(79, ((1, 15), (2, 25), (3, 12))) + [LEAST, TURN, SOMETIMES, Program(1, [])]:
            for width in (1, 2, 3):
                found.append(self.average_by_runs(program, width))
                self.assert_same(average_steps(program, width), found[-1])
        self.assertGreater(found.count(None), 5)
        self.assertGreater(len(set(found)), 10)

    def test_limit(self):
        """The limit is a fraction of as many parts as there are orders and signs, which great widths come near to."""
        drawn = programs(80, ((1, 15), (2, 25), (3, 20), (4, 10)))
        found = []
        for program in drawn + [LEAST, Program(1, []), ascending(3, "b"), ascending(4, "l")]:
            limit = average_limit(program)
            near = average_steps(program, 300)
            found.append(limit)
            if near is None:
                self.assert_same(limit, None)
            else:
                parts = 2 ** program.inputs * factorial(program.inputs)
                self.assertEqual(parts % limit[1], 0)
                self.assert_same(Fraction(*limit).as_integer_ratio(), limit)
                self.assertLess(abs(Fraction(*limit) - Fraction(*near)), Fraction(1, 2 ** 280))
        self.assertGreater(found.count(None), 5)
        self.assertGreater(len(set(found)), 10)

    def test_values(self):
        self.assert_same([average_steps(LEAST, width) for width in (1, 2)], [(13, 4), (27, 8)])
        self.assert_same(average_steps(LEAST, 300), (7 * 2 ** 300 - 1, 2 ** 301))
        self.assert_same(average_limit(LEAST), (7, 2))
        for inputs in (1, 2, 3, 4):
            for rows, wanted in (([], (0, 1)), ([("stop",)], (1, 1)), ([("jif", "e", 0)], (0, 1)), ([("jump", 0)], None)):
                program = Program(inputs, rows)
                self.assert_same([average_steps(program, 300), average_limit(program)], [wanted, wanted])
        self.assert_same([average_limit(ascending(2, "b")), average_limit(ascending(3, "b"))], [(3, 1), (4, 1)])
        # 3 of 6 orders have 3 steps, 2 have 5 steps, and 1 has 6 steps.
        longer = Program(3, ascending(3, "l").rows[:-1] + [("out", "p"), ("out", "q")])
        self.assert_same(average_limit(longer), (25, 6))

    def test_endless_at_great_widths_only(self):
        self.assert_same([average_steps(SOMETIMES, width) for width in (1, 2, 3, 300)], [(7, 2), None, None, None])
        self.assert_same(average_limit(SOMETIMES), None)
        three = Program(3, [
            ("cmp", "p", "q"), ("jif", "ge", 7), ("jif", "mixed", 7), ("cmp", "q", "r"), ("jif", "ge", 7),
            ("jif", "mixed", 7), ("jump", 6), ("stop",),
        ])
        self.assertEqual([average_steps(three, width) is None for width in (1, 2, 3, 300)], [False, False, True, True])
        self.assert_same(average_limit(three), None)

    def test_endless_for_equal_words_only(self):
        """However rare they are, some run is endless."""
        program = Program(2, [("cmp", "p", "q"), ("jif", "e", 1)])
        self.assert_same([average_steps(program, width) for width in (1, 300)], [None, None])
        self.assert_same(average_limit(program), None)


def wrong_queries(program):
    """Tuples that are no queries about a program."""
    rows, inputs = len(program), program.inputs
    words = [("any",), ("",), ("All",), ("all ",), ("stop",), ("ends", "stop"), (), (3,)]
    endings = [("end", ending) for ending in ("", "Stop", "stops", "fault ", "all", "break", "over", 0)]
    items = [
        ("all", 0), ("all", "stop"), ("end",), ("end", "stop", "stop"), ("reach",), ("reach", 0, 0), ("steps",),
        ("steps", 1), ("steps", 1, 2, 3), ("first",), ("first", 0, 0), ("reach", "0"), ("steps", "0", 1), ("first", "p"),
    ]
    numbers = [("reach", row) for row in (-1, rows + 1, HUGE, -HUGE)]
    numbers += [("first", number) for number in (-1, inputs, inputs + 1, HUGE, -HUGE)]
    return words + endings + items + numbers


class ErrorsTest(BranchTestCase):

    def test_widths_come_first(self):
        for width in (0, -1, -300, -HUGE):
            for query in [("all",), ("reach", 4)] + wrong_queries(LEAST):
                self.assert_error(InvalidWidth, width, count_inputs, LEAST, width, query)
                for number in (0, -1, HUGE):
                    self.assert_error(InvalidWidth, width, nth_input, LEAST, width, query, number)
            self.assert_error(InvalidWidth, width, average_steps, LEAST, width)
            self.assert_error(InvalidWidth, width, average_steps, TURN, width)

    def test_queries(self):
        for program in (LEAST, TURN, Program(1, []), Program(4, [("jump", 0)])):
            for query in wrong_queries(program):
                for width in (1, 300):
                    self.assert_error(InvalidQuery, query, count_inputs, program, width, query)
                    for number in (0, -1, HUGE):
                        self.assert_error(InvalidQuery, query, nth_input, program, width, query, number)

    def test_greatest_rows_and_inputs(self):
        for program in (LEAST, Program(1, []), Program(4, [("jump", 0)])):
            every = 2 ** program.inputs
            ends = count_inputs(program, 1, ("reach", len(program)))
            self.assert_same(ends, 0 if program.rows == [("jump", 0)] else every)
            self.assertLessEqual(count_inputs(program, 1, ("first", program.inputs - 1)), every)

    def test_numbers(self):
        for query, many in ((("all",), 16), (("end", "stop"), 16), (("end", "fault"), 0), (("steps", 4, 4), 6),
                            (("reach", 2), 6), (("first", 1), 10), (("steps", 9, 1), 0)):
            self.assert_same(count_inputs(LEAST, 2, query), many)
            for number in (-1, -2, -HUGE, many, many + 1, HUGE):
                self.assert_error(InvalidNumber, number, nth_input, LEAST, 2, query, number)


class InterfaceTest(BranchTestCase):

    def test_defined_in_this_file(self):
        for function in FUNCTIONS:
            self.assertEqual(function.__module__, "branchorders.counting")
            self.assertIs(getattr(counting_file, function.__name__), function)

    def test_by_name(self):
        self.assert_same(count_inputs(query=("steps", 4, 4), width=1, program=LEAST), 1)
        self.assert_same(nth_input(number=2, query=("steps", 4, 4), width=2, program=LEAST), (2, 1))
        self.assert_same(average_steps(width=1, program=LEAST), (13, 4))
        self.assert_same(average_limit(program=LEAST), (7, 2))

    def test_errors_by_name(self):
        self.assert_error(InvalidWidth, 0, count_inputs, query=(), width=0, program=LEAST)
        self.assert_error(InvalidQuery, (), nth_input, number=-1, query=(), width=1, program=LEAST)
        self.assert_error(InvalidWidth, -1, average_steps, width=-1, program=LEAST)

    def test_enough(self):
        """Which endings there are, a width tells that shows all rankings (point 10)."""
        for program in programs(81, ((1, 5), (2, 10), (3, 10))):
            for ending in ENDINGS:
                found = [count_inputs(program, width, ("end", ending)) > 0 for width in (ENOUGH[program.inputs], 300)]
                self.assertEqual(found[0], found[1])


if __name__ == "__main__":
    unittest.main()
