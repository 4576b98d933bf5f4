"""Points 8 to 10, and the interface of branchorders/runs.py."""

import random
import unittest

from branchorders import runs as runs_file
from branchorders.errors import InvalidNumber, InvalidRanking, InvalidWidth, InvalidWords
from branchorders.programs import Program
from branchorders.rankings import least_width, least_words
from branchorders.runs import behaviour, count_steps, nth_out, run, steps
from helpers import HUGE, MEANINGS, OUTCOMES, BranchTestCase
from models import (
    Model, drawn_rows, names_for, ranking_by_words, rankings_by_definition, shortest_parts, tuples_of_words,
)

FUNCTIONS = (run, count_steps, nth_out, steps, behaviour)

LEAST = Program(2, [("cmp", "p", "q"), ("jif", "be", 3), ("mov", "p", "q"), ("out", "p")])
TURN = Program(2, [("out", "p"), ("swap", "p", "q"), ("jump", 0)])

# Two words of the width 4 for each outcome.
PAIRS = {"E": (9, 9), "LB": (2, 3), "GA": (15, 8), "GB": (7, 8), "LA": (8, 7)}


def outs_then(names, ring):
    """A program with three inputs that puts out some registers once, then others for ever."""
    rows = [("out", name) for name in names + ring]
    return Program(3, rows + [("jump", len(names))])


def counting_program():
    """Three registers that count as digits, each by the first three inputs; the digits are put out each time."""
    rows = [("mov", name, "p") for name in "sxy"] + [("out", name) for name in "sxy"]
    for name in "sxy":
        at = len(rows)
        rows += [
            ("cmp", name, "p"), ("jif", "ne", at + 4), ("mov", name, "q"), ("jump", 3),
            ("cmp", name, "q"), ("jif", "ne", at + 8), ("mov", name, "r"), ("jump", 3),
            ("mov", name, "p"),
        ]
    return Program(4, rows)


class RunCase(BranchTestCase):

    def check(self, program, width, words):
        """All functions against the model; returns the ending."""
        model = Model(program, width, words)
        wanted = model.behaviour()
        self.assert_same(run(program, width, words), wanted)
        self.assert_same(list(steps(program, width, words)), model.trace)
        ended = model.ending != "endless"
        self.assert_same(count_steps(program, width, words), len(model.trace) if ended else None)
        for number, word in enumerate(model.outs):
            self.assert_same(nth_out(program, width, words, number), word)
        if not wanted[2]:
            self.assert_same(nth_out(program, width, words, len(model.outs)), None)
        return model.ending


class RowsTest(RunCase):

    def outs(self, rows, words=(5, 6, 7), width=4):
        program = Program(len(words), rows)
        self.check(program, width, words)
        ending, outs, ring = run(program, width, words)
        self.assertEqual((ending, ring), ("stop", ()))
        return outs

    def test_first_registers(self):
        for inputs in (1, 2, 3, 4):
            words = (11, 3, 6, 8)[:inputs]
            rows = [("out", name) for name in names_for(inputs)]
            self.assert_same(self.outs(rows, words), words + (11, 11))

    def test_mov_copies_the_second_to_the_first(self):
        self.assert_same(self.outs([("mov", "p", "q"), ("out", "p"), ("out", "q"), ("out", "x")]), (6, 6, 5))
        self.assert_same(self.outs([("mov", "y", "r"), ("mov", "r", "p"), ("out", "y"), ("out", "r")]), (7, 5))
        self.assert_same(self.outs([("mov", "q", "q"), ("out", "q")]), (6,))

    def test_swap_exchanges(self):
        self.assert_same(self.outs([("swap", "p", "r"), ("out", "p"), ("out", "q"), ("out", "r")]), (7, 6, 5))
        self.assert_same(self.outs([("swap", "y", "q"), ("out", "y"), ("out", "q"), ("out", "x")]), (6, 5, 5))
        self.assert_same(self.outs([("swap", "r", "r"), ("out", "r")]), (7,))

    def test_cmp_sets_the_flag(self):
        for outcome, words in PAIRS.items():
            program = Program(2, [("cmp", "p", "q"), ("cmp", "q", "p"), ("cmp", "q", "q")])
            mirror = {"E": "E", "LB": "GA", "GA": "LB", "GB": "LA", "LA": "GB"}[outcome]
            self.assert_same(list(steps(program, 4, words)), [(0, outcome), (1, mirror), (2, "E")])

    def test_each_condition(self):
        meanings = dict(MEANINGS)
        for outcome in OUTCOMES:
            for condition, outcomes in meanings.items():
                moves = Program(2, [("cmp", "p", "q"), ("cmov", condition, "x", "q"), ("out", "x")])
                jumps = Program(2, [("cmp", "p", "q"), ("jif", condition, 3), ("out", "p"), ("out", "q")])
                first, second = words = PAIRS[outcome]
                holds = outcome in outcomes
                self.assert_same(run(moves, 4, words), ("stop", (second if holds else first,), ()))
                self.assert_same(run(jumps, 4, words), ("stop", (second,) if holds else words, ()))
                self.assert_same(count_steps(moves, 4, words), 3)
                self.assert_same(count_steps(jumps, 4, words), 3 if holds else 4)

    def test_jumps_of_one_row(self):
        self.assert_same(self.outs([("jump", 2), ("out", "p"), ("out", "q")]), (6,))
        self.assert_same(self.outs([("jump", 3), ("out", "p"), ("out", "q")]), ())
        self.assert_same(self.outs([("cmp", "p", "p"), ("jif", "e", 4), ("out", "p"), ("out", "q")]), ())
        self.assert_same(self.outs([("cmp", "p", "p"), ("jif", "ne", 4), ("out", "p"), ("out", "q")]), (5, 6))

    def test_moves_keep_the_flag(self):
        rows = [("cmp", "p", "q"), ("mov", "p", "q"), ("swap", "p", "r"), ("cmov", "e", "p", "q"), ("out", "p")]
        found = list(steps(Program(3, rows), 4, (5, 6, 7)))
        self.assert_same(found, [(row, "LB") for row in range(5)])


class EndingsTest(RunCase):

    def test_stop(self):
        program = Program(1, [("out", "p"), ("stop",), ("out", "p")])
        self.assert_same(run(program, 3, (7,)), ("stop", (7,), ()))
        self.assert_same(count_steps(program, 3, (7,)), 2)
        self.assert_same(list(steps(program, 3, (7,))), [(0, None), (1, None)])

    def test_end_behind_the_last_row(self):
        program = Program(1, [("out", "p"), ("cmp", "p", "p")])
        self.assert_same(run(program, 3, (7,)), ("stop", (7,), ()))
        self.assert_same(count_steps(program, 3, (7,)), 2)
        self.assert_same(list(steps(program, 3, (7,))), [(0, None), (1, "E")])

    def test_no_rows(self):
        for inputs in (1, 2, 3, 4):
            program, words = Program(inputs, []), (1, 0, 1, 0)[:inputs]
            self.assert_same(run(program, 1, words), ("stop", (), ()))
            self.assert_same(count_steps(program, 1, words), 0)
            self.assert_same(list(steps(program, 1, words)), [])
            self.assert_same(nth_out(program, 1, words, 0), None)

    def test_fault(self):
        for row in (("cmov", "e", "p", "x"), ("jif", "ne", 0), ("jif", "e", 3)):
            program = Program(1, [("out", "x"), row, ("out", "p")])
            self.assert_same(run(program, 4, (9,)), ("fault", (9,), ()))
            self.assert_same(count_steps(program, 4, (9,)), 1)
            self.assert_same(list(steps(program, 4, (9,))), [(0, None)])
            self.assert_same(run(Program(1, [row] + [("stop",)] * 3), 4, (9,)), ("fault", (), ()))
            self.assert_same(count_steps(Program(1, [row] + [("stop",)] * 3), 4, (9,)), 0)

    def test_no_fault_behind_a_cmp(self):
        program = Program(1, [("cmp", "p", "x"), ("cmov", "ne", "p", "x"), ("jif", "ne", 0), ("out", "p")])
        self.assert_same(run(program, 4, (9,)), ("stop", (9,), ()))
        self.assert_same(count_steps(program, 4, (9,)), 4)

    def test_fault_for_some_words(self):
        rows = [("cmp", "p", "q"), ("jif", "e", 3), ("stop",), ("swap", "p", "q")]
        self.assert_same(run(Program(2, rows), 4, (3, 3))[0], "stop")
        around = Program(2, [("jump", 2), ("cmp", "p", "q"), ("out", "q"), ("jif", "e", 1)])
        for words in ((3, 3), (3, 4)):
            self.assert_same(run(around, 4, words), ("fault", words[1:], ()))

    def test_endless_without_outputs(self):
        for rows in ([("jump", 0)], [("swap", "p", "x"), ("jump", 0)], [("cmp", "p", "p"), ("jif", "e", 0)]):
            self.assert_same(run(Program(1, rows), 1, (1,)), ("endless", (), ()))
            self.assert_same(count_steps(Program(1, rows), 1, (1,)), None)
            self.assert_same(nth_out(Program(1, rows), 1, (1,), 0), None)
            self.assert_same(nth_out(Program(1, rows), 1, (1,), HUGE), None)

    def test_endless_with_finitely_many_outputs(self):
        program = Program(2, [("out", "q"), ("out", "p"), ("out", "p"), ("swap", "p", "q"), ("jump", 3)])
        self.assert_same(run(program, 4, (9, 2)), ("endless", (2, 9, 9), ()))
        self.assert_same(count_steps(program, 4, (9, 2)), None)
        self.assert_same([nth_out(program, 4, (9, 2), number) for number in range(5)], [2, 9, 9, None, None])
        self.assert_same(nth_out(program, 4, (9, 2), HUGE), None)


class ShortestTest(RunCase):
    """Outs and ring are as short as they can be."""

    def check_ring(self, names, ring, wanted, words=(1, 2, 3)):
        program = outs_then(names, ring)
        self.check(program, 4, words)
        self.assert_same(run(program, 4, words), ("endless", *wanted))

    def test_ring_of_one_word(self):
        self.check_ring("", "p", ((), (1,)))
        self.check_ring("", "pp", ((), (1,)))
        self.check_ring("", "pppp", ((), (1,)))
        self.check_ring("p", "p", ((), (1,)))
        self.check_ring("ppp", "pp", ((), (1,)))
        self.check_ring("q", "pp", ((2,), (1,)))
        self.check_ring("qp", "pp", ((2,), (1,)))

    def test_ring_is_shortened(self):
        self.check_ring("", "pqpq", ((), (1, 2)))
        self.check_ring("", "pqrpqr", ((), (1, 2, 3)))
        self.check_ring("", "pqpqp", ((), (1, 2, 1, 2, 1)))
        self.check_ring("", "ppqppq", ((), (1, 1, 2)))
        self.check_ring("r", "pqpqpq", ((3,), (1, 2)))

    def test_outputs_move_into_the_ring(self):
        self.check_ring("q", "pq", ((), (2, 1)))
        self.check_ring("r", "pqr", ((), (3, 1, 2)))
        self.check_ring("qr", "pqr", ((), (2, 3, 1)))
        self.check_ring("rq", "pq", ((3,), (2, 1)))
        self.check_ring("pqr", "pqr", ((), (1, 2, 3)))
        self.check_ring("qpq", "pq", ((), (2, 1)))
        self.check_ring("rqpqpq", "pqpq", ((3,), (2, 1)))
        self.check_ring("p", "pq", ((1,), (1, 2)))
        self.check_ring("qqpq", "pq", ((2,), (2, 1)))

    def test_equal_words_make_shorter_rings(self):
        self.check_ring("p", "qr", ((), (5,)), (5, 5, 5))
        self.check_ring("", "pqrq", ((), (5, 6)), (5, 6, 5))
        self.check_ring("", "pqr", ((), (5, 5, 6)), (5, 5, 6))
        self.check_ring("r", "pq", ((), (6, 5)), (5, 6, 6))

    def test_rings_of_all_small_programs(self):
        drawn = random.Random(9)
        for _ in range(300):
            names = "".join(drawn.choices("pqr", k=drawn.randint(0, 8)))
            ring = "".join(drawn.choices("pqr", k=drawn.randint(1, 4))) * drawn.randint(1, 3)
            before, again = list(map("pqr".index, names)), list(map("pqr".index, ring))
            wanted = shortest_parts(before, again)
            self.assert_same(behaviour(outs_then(names, ring), ((0, 1, 2), 3)), ("endless", *wanted))

    def test_states_that_differ_put_out_the_same(self):
        """The states come again later than the outputs do."""
        rows = [("out", "x"), ("swap", "p", "q"), ("swap", "q", "r"), ("jump", 0)]
        self.check(Program(3, rows), 4, (1, 2, 3))
        self.assert_same(run(Program(3, rows), 4, (1, 2, 3)), ("endless", (), (1,)))
        self.assert_same(len(list(steps(Program(3, rows), 4, (1, 2, 3)))), 12)


class StepsTest(RunCase):

    def test_up_to_the_state_that_comes_again(self):
        self.assert_same(list(steps(Program(1, [("jump", 0)]), 4, (9,))), [(0, None)])
        self.assert_same(list(steps(TURN, 4, (9, 2))), [(0, None), (1, None), (2, None)] * 2)
        self.assert_same(list(steps(TURN, 4, (9, 9))), [(0, None), (1, None), (2, None)])
        # The flag is a part of the state.
        around = Program(1, [("cmp", "p", "x"), ("jump", 0)])
        self.assert_same(list(steps(around, 4, (9,))), [(0, "E"), (1, "E"), (0, "E")])
        later = Program(2, [("out", "p"), ("cmp", "p", "q"), ("jif", "ne", 1)])
        self.assert_same(list(steps(later, 4, (7, 8))), [(0, None), (1, "GB"), (2, "GB"), (1, "GB")])

    def test_two_walks_at_the_same_time(self):
        first, second = steps(LEAST, 4, (9, 2)), steps(LEAST, 4, (2, 9))
        other = steps(TURN, 4, (9, 2))
        found = [(next(first), next(second), next(other)) for _ in range(3)]
        self.assert_same(found, [
            ((0, "LA"), (0, "GB"), (0, None)), ((1, "LA"), (1, "GB"), (1, None)), ((2, "LA"), (3, "GB"), (2, None)),
        ])
        self.assert_same(list(second), [])
        self.assert_same(list(first), [(3, "LA")])
        self.assert_same(list(other), [(0, None), (1, None), (2, None)])

    def test_a_walk_that_stops_early(self):
        walk = steps(LEAST, 4, (9, 2))
        self.assert_same(next(walk), (0, "LA"))
        walk.close()
        self.assert_same(list(walk), [])
        self.assert_same(next(steps(LEAST, 4, (9, 2))), (0, "LA"))
        self.assert_same(list(steps(LEAST, 4, (9, 2))), [(0, "LA"), (1, "LA"), (2, "LA"), (3, "LA")])

    def test_program_stays(self):
        rows = LEAST.rows
        walk = steps(LEAST, 4, (9, 2))
        next(walk)
        self.assert_same(LEAST.rows, rows)
        list(walk)
        self.assert_same((LEAST.rows, LEAST.inputs), (rows, 2))


class NthOutTest(RunCase):

    def test_near(self):
        program = outs_then("rqp", "pq")
        wanted = [3, 2, 1, 1, 2, 1, 2, 1, 2, 1]
        self.assert_same([nth_out(program, 4, (1, 2, 3), number) for number in range(10)], wanted)

    def test_far(self):
        for number in (10 ** 30, 10 ** 30 + 1, 10 ** 400 - 1, 10 ** 400):
            self.assert_same(nth_out(TURN, 4, (9, 2), number), (9, 2)[number % 2])
            program, words = outs_then("rq", "pqr"), (7, 0, 2 ** 300 - 1)
            self.assert_same(nth_out(program, 300, words, number), words[(number - 2) % 3])

    def test_none(self):
        for number in (1, 2, 10 ** 30, 10 ** 400):
            self.assert_same(nth_out(LEAST, 4, (9, 2), number), None)
        self.assert_same(nth_out(LEAST, 4, (9, 2), 0), 2)
        fault = Program(1, [("out", "p"), ("jif", "e", 0)])
        self.assert_same([nth_out(fault, 4, (9,), number) for number in (0, 1, 10 ** 400)], [9, None, None])


class LongRunsTest(RunCase):

    def test_registers_that_count(self):
        program = counting_program()
        for width, words in ((4, (1, 2, 3, 4)), (300, (2 ** 299, 5, 2 ** 300 - 1, 0)), (2, (3, 0, 2, 3))):
            self.check(program, width, words)
            ending, outs, ring = run(program, width, words)
            digits = words[:3]
            wanted = [(a, b, c) for c in digits for b in digits for a in digits]
            self.assert_same((ending, ring), ("stop", ()))
            self.assert_same(outs, sum(wanted, ()))
            self.assertGreater(count_steps(program, width, words), 250)

    def test_counting_for_ever(self):
        rows = counting_program().rows
        program = Program(4, rows + [("swap", "p", "q"), ("jump", 0)])
        self.assertEqual(self.check(program, 3, (1, 7, 4, 0)), "endless")
        self.assertGreater(len(list(steps(program, 3, (1, 7, 4, 0)))), 500)
        self.assertEqual(len(run(program, 3, (1, 7, 4, 0))[2]), 2 * 27 * 3)

    def test_forty_rows(self):
        rows = [("out", "pqrs"[place % 4]) for place in range(39)] + [("jump", 0)]
        words = (1, 2 ** 299, 3, 2 ** 300 - 1)
        self.assert_same(run(Program(4, rows), 300, words)[2], tuple(words[place % 4] for place in range(39)))
        self.check(Program(4, rows), 300, words)


class DrawnTest(RunCase):

    def test_drawn_programs(self):
        drawn = random.Random(40)
        endings = []
        for number in range(1500):
            inputs = 1 + number % 4
            program = Program(inputs, drawn_rows(drawn, inputs, drawn.choice((3, 6, 10, 20, 40))))
            width = drawn.choice((1, 2, 3, 8, 64, 300))
            words = tuple(drawn.randrange(2 ** width) for _ in range(inputs))
            endings.append(self.check(program, width, words))
            self.check(program, width, tuple(drawn.choices(words, k=inputs)))
        for ending in ("stop", "fault", "endless"):
            self.assertGreater(endings.count(ending), 100)

    def test_all_words_of_small_widths(self):
        drawn = random.Random(41)
        for number in range(40):
            inputs = 1 + number % 3
            program = Program(inputs, drawn_rows(drawn, inputs, 8))
            for width in (1, 2):
                for words in tuples_of_words(width, inputs):
                    self.check(program, width, words)


def by_inputs(found, words):
    ending, outs, ring = found
    return (ending, tuple(map(words.index, outs)), tuple(map(words.index, ring)))


class BehaviourTest(BranchTestCase):

    def test_against_runs_for_all_rankings(self):
        drawn = random.Random(10)
        for inputs in (1, 2, 3, 4):
            programs = [Program(inputs, drawn_rows(drawn, inputs, 10)) for _ in range(15)]
            for ranking in rankings_by_definition(inputs):
                for program in programs if inputs < 4 else programs[:4]:
                    wanted = behaviour(program, ranking)
                    for width in (least_width(ranking), 64, 300):
                        words = least_words(ranking, width)
                        self.assert_same(wanted, by_inputs(run(program, width, words), words))

    def test_depends_only_on_the_ranking(self):
        """Point 10, first sentence, for all words of small widths."""
        drawn = random.Random(11)
        for inputs, width in ((1, 3), (2, 3), (3, 2)):
            for _ in range(12):
                program = Program(inputs, drawn_rows(drawn, inputs, 9))
                for words in tuples_of_words(width, inputs):
                    found = by_inputs(Model(program, width, words).behaviour(), words)
                    self.assert_same(behaviour(program, ranking_by_words(width, words)), found)

    def test_first_input_with_the_word(self):
        ends = outs_then("", "rqp")
        self.assert_same(behaviour(ends, ((0, 1, 2), 1)), ("endless", (), (2, 1, 0)))
        self.assert_same(behaviour(ends, ((0, 1, 0), 1)), ("endless", (), (0, 1, 0)))
        self.assert_same(behaviour(ends, ((1, 0, 0), 1)), ("endless", (), (1, 1, 0)))
        self.assert_same(behaviour(ends, ((0, 0, 0), 1)), ("endless", (), (0,)))
        self.assert_same(behaviour(TURN, ((1, 0), 1)), ("endless", (), (0, 1)))
        copies = Program(2, [("mov", "p", "q"), ("out", "p"), ("out", "x"), ("out", "q")])
        self.assert_same(behaviour(copies, ((0, 1), 0)), ("stop", (1, 0, 1), ()))
        self.assert_same(behaviour(copies, ((0, 0), 0)), ("stop", (0, 0, 0), ()))

    def test_endings(self):
        fault = Program(1, [("out", "x"), ("cmov", "e", "p", "x")])
        self.assert_same(behaviour(fault, ((0,), 1)), ("fault", (0,), ()))
        some = Program(2, [("cmp", "p", "q"), ("jif", "mixed", 1), ("stop",)])
        wanted = ["endless" if cut == 1 and ranks != (0, 0) else "stop" for ranks, cut in rankings_by_definition(2)]
        self.assert_same([behaviour(some, ranking)[0] for ranking in rankings_by_definition(2)], wanted)

    def test_errors(self):
        for ranking in (((1,), 0), ((0, 2), 1), ((0, -1), 0), ((0, 0), 2), ((0, 1), 3), ((0, 1), -1), ((0, HUGE), 0),
                        ((0, 1), -HUGE), ((0, 1, 1, 3), 2), ((1, 2, 3, 4, 5), 5)):
            for inputs in (1, 2, 3, 4):
                self.assert_error(InvalidRanking, ranking, behaviour, Program(inputs, [("jump", 0)]), ranking)
        for inputs in (1, 2, 3, 4):
            for items in (1, 2, 3, 4, 5):
                ranking = (tuple(range(items)), 1)
                if items != inputs:
                    self.assert_error(InvalidRanking, ranking, behaviour, Program(inputs, []), ranking)


class InputCheckTest(BranchTestCase):

    def assert_errors(self, kind, value, program, width, words):
        self.assert_error(kind, value, run, program, width, words)
        self.assert_error(kind, value, count_steps, program, width, words)
        for number in (0, 5, HUGE, -1, -HUGE):
            self.assert_error(kind, value, nth_out, program, width, words, number)
        self.assert_error(kind, value, lambda: next(steps(program, width, words)))
        self.assert_error(kind, value, lambda: list(steps(program, width, words)))

    def programs(self, inputs):
        return (Program(inputs, []), Program(inputs, [("jump", 0)]), Program(inputs, [("jif", "e", 1)]))

    def test_widths(self):
        for inputs in (1, 2, 4):
            for program in self.programs(inputs):
                for width in (0, -1, -300, -HUGE):
                    for words in ((0,) * inputs, (-1,) * inputs, (), (0,) * 5, (-7,) * 5):
                        self.assert_errors(InvalidWidth, width, program, width, words)

    def test_numbers_of_words(self):
        for inputs in (1, 2, 3, 4):
            for program in self.programs(inputs):
                for many in range(7):
                    if many != inputs:
                        for words in ((0,) * many, (-1,) * many, (HUGE,) * many):
                            self.assert_errors(InvalidWords, None, program, 3, words)

    def test_words(self):
        for inputs in (1, 2, 3, 4):
            program = Program(inputs, [("jump", 0)])
            for width in (1, 3, 64, 300):
                good = (0, 2 ** width - 1, 1, 2 ** (width - 1))[:inputs]
                for word in (-1, 2 ** width, 2 ** width + 1, HUGE, -HUGE):
                    for place in range(inputs):
                        words = good[:place] + (word,) + good[place + 1:]
                        self.assert_errors(InvalidWords, place, program, width, words)
                        several = good[:place] + (word,) + (-1,) * (inputs - place - 1)
                        self.assert_errors(InvalidWords, place, program, width, several)

    def test_negative_numbers(self):
        for program in (LEAST, TURN, Program(2, []), Program(2, [("jump", 0)]), Program(2, [("jif", "e", 0)])):
            for number in (-1, -2, -HUGE):
                self.assert_error(InvalidNumber, number, nth_out, program, 4, (9, 2), number)


class InterfaceTest(BranchTestCase):

    def test_defined_in_this_file(self):
        for function in FUNCTIONS:
            self.assertEqual(function.__module__, "branchorders.runs")
            self.assertIs(getattr(runs_file, function.__name__), function)

    def test_by_name(self):
        self.assert_same(run(words=(9, 2), width=4, program=LEAST), ("stop", (2,), ()))
        self.assert_same(count_steps(words=(9, 2), width=4, program=LEAST), 4)
        self.assert_same(nth_out(number=1, words=(9, 2), width=4, program=TURN), 2)
        self.assert_same(list(steps(words=(2, 9), width=4, program=LEAST)), [(0, "GB"), (1, "GB"), (3, "GB")])
        self.assert_same(behaviour(ranking=((0, 0), 1), program=TURN), ("endless", (), (0,)))

    def test_errors_by_name(self):
        self.assert_error(InvalidWidth, 0, run, words=(9, 2), width=0, program=LEAST)
        self.assert_error(InvalidWords, None, count_steps, words=(9,), width=4, program=LEAST)
        self.assert_error(InvalidNumber, -1, nth_out, number=-1, words=(9, 2), width=4, program=TURN)
        self.assert_error(InvalidWords, 1, lambda: list(steps(words=(9, 16), width=4, program=LEAST)))
        self.assert_error(InvalidRanking, ((0,), 1), behaviour, ranking=((0,), 1), program=TURN)


if __name__ == "__main__":
    unittest.main()
