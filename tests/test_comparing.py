"""Points 9 to 11, and the interface of branchorders/comparing.py."""

import random
import unittest

from branchorders import comparing as comparing_file
from branchorders.comparing import are_alike, first_difference, parting_width
from branchorders.errors import InvalidWidth, UnlikeInputs
from branchorders.programs import Program
from branchorders.runs import run
from helpers import HUGE, BranchTestCase
from models import ENOUGH, Model, drawn_program, drawn_row, least_tuples, models_at, names_for

FUNCTIONS = (are_alike, parting_width, first_difference)

LEAST = Program(2, [("cmp", "p", "q"), ("jif", "be", 3), ("mov", "p", "q"), ("out", "p")])

# These put out a word only for some words of the width 2 or 3 and above: two different ones of one sign, three of one.
AT_TWO = Program(2, [("cmp", "p", "q"), ("jif", "e", 4), ("jif", "mixed", 4), ("out", "p")])
AT_THREE = Program(3, [
    ("cmp", "p", "q"), ("jif", "mixed", 7), ("jif", "ge", 7), ("cmp", "q", "r"), ("jif", "mixed", 7), ("jif", "ge", 7),
    ("out", "p"),
])
AT_THREE_OF_FOUR = Program(4, AT_THREE.rows)


def silent(program):
    """A program with as many inputs that stops and puts out nothing."""
    return Program(program.inputs, [])


def first_unlike(first, second, width):
    """By all words of a width."""
    for (words, model), (_, other) in zip(models_at(first, width), models_at(second, width)):
        if model.behaviour() != other.behaviour():
            return words
    return None


def first_unlike_of_least(first, second, width):
    for words in least_tuples(width, first.inputs):
        if Model(first, width, words).behaviour() != Model(second, width, words).behaviour():
            return words
    return None


def with_one_other_row(random, program):
    rows = program.rows
    rows[random.randrange(len(rows))] = drawn_row(random, names_for(program.inputs), len(rows))
    return Program(program.inputs, rows)


class ComparingCase(BranchTestCase):

    def check(self, first, second):
        """All functions against all words; returns the parting width."""
        unlike = {width: first_unlike(first, second, width) for width in (1, 2, 3)}
        for width, words in unlike.items():
            self.assert_same(are_alike(first, second, width), words is None)
            self.assert_same(first_difference(first, second, width), words)
            if words is not None:
                self.assertNotEqual(run(first, width, words), run(second, width, words))
        parting = min([width for width in unlike if unlike[width] is not None], default=None)
        self.assert_same(parting_width(first, second), parting)
        self.assert_same(parting_width(second, first), parting)
        enough = unlike[ENOUGH[first.inputs]]
        self.assert_same([are_alike(first, second), are_alike(first, second, None)], [enough is None] * 2)
        for width in (4, 8, 64, 300):
            self.assert_same(are_alike(first, second, width), enough is None)
        return parting

    def check_each(self, pairs):
        """Returns the parting widths of the pairs."""
        return [self.check(first, second) for first, second in pairs]


class AlikeTest(ComparingCase):

    def test_equal_programs(self):
        drawn = random.Random(50)
        for inputs in (1, 2, 3, 4):
            for _ in range(6 if inputs < 4 else 1):
                program = drawn_program(drawn, inputs, 8)
                self.assertIsNone(self.check(program, program))
                self.assertIsNone(self.check(program, Program(inputs, program.rows)))

    def test_one_other_row(self):
        drawn = random.Random(51)
        found = []
        for inputs, many in ((1, 25), (2, 40), (3, 25), (4, 2)):
            programs = [drawn_program(drawn, inputs, drawn.choice((3, 6, 10))) for _ in range(many)]
            found += self.check_each([(program, with_one_other_row(drawn, program)) for program in programs])
        for width in (None, 1):
            self.assertGreater(found.count(width), 10)

    def test_exchanged_and_mirrored(self):
        drawn = random.Random(52)
        found = []
        for inputs, many in ((1, 10), (2, 25), (3, 25), (4, 1)):
            programs = [drawn_program(drawn, inputs, 8) for _ in range(many)]
            found += self.check_each([(program, program.exchanged()) for program in programs])
            found += self.check_each([(program, program.mirrored()) for program in programs])
        for width in (None, 1):
            self.assertGreater(found.count(width), 10)

    def test_alike_at_little_widths_only(self):
        self.assertEqual(self.check(AT_TWO, silent(AT_TWO)), 2)
        self.assertEqual(self.check(AT_THREE, silent(AT_THREE)), 3)
        self.assertEqual(self.check(AT_THREE_OF_FOUR, silent(AT_THREE_OF_FOUR)), 3)
        self.assert_same([are_alike(AT_THREE, silent(AT_THREE), width) for width in (1, 2, 3, 4)],
                         [True, True, False, False])
        four = Program(4, [
            ("cmp", "p", "q"), ("jif", "mixed", 11), ("jif", "ge", 11), ("cmp", "q", "r"), ("jif", "mixed", 11),
            ("jif", "ge", 11), ("cmp", "r", "s"), ("jif", "mixed", 11), ("jif", "ge", 11), ("jump", 10), ("out", "p"),
        ])
        self.assertEqual(self.check(four, silent(four)), 3)
        self.assert_same(first_difference(four, silent(four), 3), (0, 1, 2, 3))

    def test_other_rows_that_do_the_same(self):
        """Different registers, flags, steps and numbers of rows do not count, endings and outputs do."""
        for first, second in (
            ([("out", "p")], [("out", "x"), ("stop",)]),
            ([("out", "p")], [("jump", 1), ("cmp", "p", "q"), ("out", "y"), ("mov", "p", "q")]),
            ([("jump", 0)], [("cmp", "p", "q"), ("swap", "x", "y"), ("jump", 0)]),
            ([("out", "p"), ("jump", 0)], [("out", "x"), ("out", "y"), ("jump", 1)]),
            ([("out", "p"), ("swap", "p", "q"), ("jump", 0)], [("out", "p"), ("out", "q"), ("jump", 0)]),
            ([("jif", "e", 0)], [("cmov", "ne", "p", "q"), ("out", "p")]),
        ):
            self.assertIsNone(self.check(Program(2, first), Program(2, second)))

    def test_endings_part(self):
        endings = [[], [("jump", 0)], [("jif", "e", 0)]]
        for first in endings:
            for second in endings:
                parting = self.check(Program(2, first), Program(2, second))
                self.assertEqual(parting, None if first == second else 1)
        self.assertEqual(self.check(Program(1, [("out", "p")]), Program(1, [("out", "p"), ("out", "p")])), 1)
        self.assertEqual(self.check(Program(2, [("out", "p"), ("jump", 0)]), Program(2, [("out", "p")])), 1)

    def test_lesser_widths(self):
        """Point 10, last sentence."""
        drawn = random.Random(53)
        for number in range(120):
            inputs = 1 + number % 4
            first = drawn_program(drawn, inputs, 6)
            second = with_one_other_row(drawn, first)
            alike = [are_alike(first, second, width) for width in (1, 2, 3, 4, 64)]
            self.assertEqual(alike, sorted(alike, reverse=True))
            enough = ENOUGH[inputs]
            self.assertEqual(len(set(alike[enough - 1:])), 1)


class FirstDifferenceTest(ComparingCase):

    def test_great_widths(self):
        drawn = random.Random(54)
        parted = 0
        for number in range(60):
            inputs = 1 + number % 3
            first = drawn_program(drawn, inputs, 6)
            second = with_one_other_row(drawn, first) if number % 2 else first.exchanged()
            for width in (4, 64, 300):
                wanted = first_unlike_of_least(first, second, width)
                words = first_difference(first, second, width)
                self.assert_same(words, wanted)
                if words is not None:
                    parted += 1
                    self.assertNotEqual(run(first, width, words), run(second, width, words))
                    before = tuple(drawn.choice((word, drawn.randint(0, word))) for word in words)
                    if before < words:
                        self.assertEqual(run(first, width, before), run(second, width, before))
        self.assertGreater(parted, 40)

    def test_four_inputs(self):
        drawn = random.Random(55)
        for _ in range(4):
            first = drawn_program(drawn, 4, 6)
            second = with_one_other_row(drawn, first)
            self.assert_same(first_difference(first, second, 300), first_unlike_of_least(first, second, 300))

    def test_where_it_is(self):
        half = 2 ** 299
        self.assert_same(first_difference(LEAST, LEAST.exchanged(), 300), (0, half))
        self.assert_same(first_difference(LEAST, LEAST.mirrored(), 300), (0, 1))
        self.assert_same(first_difference(AT_THREE, silent(AT_THREE), 300), (0, 1, 2))
        self.assert_same(first_difference(AT_THREE, silent(AT_THREE), 2), None)
        # Only a negative p beside a q that is not; only a p that is not negative beside a negative q above r.
        one_sign = Program(2, [("cmp", "p", "q"), ("jif", "be", 4), ("jif", "ge", 4), ("out", "q")])
        self.assert_same(first_difference(one_sign, silent(one_sign), 300), (half, 0))
        two_signs = Program(3, [("cmp", "p", "q"), ("jif", "le", 7), ("jif", "ae", 7), ("cmp", "q", "r"),
                                ("jif", "be", 7), ("jif", "mixed", 7), ("out", "q")])
        self.assert_same(first_difference(two_signs, silent(two_signs), 300), (0, half + 1, half))
        self.assert_same(first_difference(two_signs, two_signs, 300), None)

    def test_all_widths(self):
        """The first words of all widths are those of the least width of a ranking."""
        self.assert_same(first_difference(LEAST, LEAST.exchanged(), None), (0, 1))
        self.assert_same(first_difference(AT_THREE, silent(AT_THREE), None), (0, 1, 2))
        self.assert_same(first_difference(LEAST, LEAST, None), None)


class ErrorsTest(BranchTestCase):

    def test_unlike_inputs_come_first(self):
        for first in (1, 2, 3, 4):
            for second in (1, 2, 3, 4):
                if first != second:
                    programs = (Program(first, []), Program(second, [("jump", 0)]))
                    self.assert_error(UnlikeInputs, None, are_alike, *programs)
                    self.assert_error(UnlikeInputs, None, parting_width, *programs)
                    for width in (1, 3, 300, 0, -1, -HUGE):
                        self.assert_error(UnlikeInputs, None, are_alike, *programs, width)
                        self.assert_error(UnlikeInputs, None, first_difference, *programs, width)

    def test_widths(self):
        for width in (0, -1, -300, -HUGE):
            for other in (LEAST, LEAST.exchanged(), Program(2, [])):
                self.assert_error(InvalidWidth, width, are_alike, LEAST, other, width)
                self.assert_error(InvalidWidth, width, first_difference, LEAST, other, width)


class InterfaceTest(BranchTestCase):

    def test_defined_in_this_file(self):
        for function in FUNCTIONS:
            self.assertEqual(function.__module__, "branchorders.comparing")
            self.assertIs(getattr(comparing_file, function.__name__), function)

    def test_by_name(self):
        other = LEAST.exchanged()
        self.assert_same(are_alike(width=3, second=other, first=LEAST), False)
        self.assert_same(are_alike(second=LEAST, first=LEAST), True)
        self.assert_same(parting_width(second=other, first=LEAST), 1)
        self.assert_same(first_difference(width=8, second=other, first=LEAST), (0, 128))

    def test_errors_by_name(self):
        self.assert_error(UnlikeInputs, None, are_alike, width=0, second=AT_THREE, first=LEAST)
        self.assert_error(UnlikeInputs, None, parting_width, second=AT_THREE, first=LEAST)
        self.assert_error(InvalidWidth, 0, first_difference, width=0, second=LEAST, first=LEAST)


if __name__ == "__main__":
    unittest.main()
