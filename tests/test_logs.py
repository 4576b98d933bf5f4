"""Points 8, 9 and 11, and the interface of branchorders/logs.py."""

import copy
import itertools
import random
import unittest

from branchorders import logs as logs_file
from branchorders.errors import InvalidNumber, InvalidWidth, InvalidWords
from branchorders.logs import count_fitting, decisions, next_decisions, relations
from branchorders.programs import Program
from helpers import HUGE, OUTCOMES, BranchTestCase, outcome_of
from models import ENOUGH, Model, drawn_program, models_at

FUNCTIONS = (decisions, count_fitting, relations, next_decisions)

ORDER = Program(2, [("cmp", "p", "q"), ("jif", "be", 3), ("swap", "p", "q"), ("jif", "l", 0), ("out", "p")])

# Two decisions, then for ever a third and a fourth one.
ROUND = Program(2, [
    ("cmp", "p", "q"), ("jif", "e", 2), ("jif", "l", 3), ("cmp", "x", "q"), ("jif", "b", 5), ("jif", "mixed", 3),
    ("jump", 3),
])

SORTS = Program(3, [
    ("cmp", "p", "q"), ("jif", "le", 3), ("swap", "p", "q"), ("cmp", "q", "r"), ("jif", "le", 7), ("swap", "q", "r"),
    ("jump", 0), ("out", "p"),
])

NO_LOGS = [[], [None], [None, None], [None] * 7, [None] * 60]


def fits(model, log):
    """Whether a run fits a log, by the words of the document."""
    made = model.decisions(len(log))
    return len(made) == len(log) and all(known in (None, jumped) for known, jumped in zip(log, made))


def next_by_runs(program, log):
    found = set()
    for _, model in models_at(program, ENOUGH[program.inputs]):
        if fits(model, log):
            made = model.decisions(len(log) + 1)
            found.add("none" if len(made) == len(log) else {True: "taken", False: "passed"}[made[-1]])
    return tuple(word for word in ("taken", "passed", "none") if word in found)


def relations_by_runs(program, log):
    """A dict from all pairs of inputs to their outcomes."""
    width, numbers = ENOUGH[program.inputs], range(program.inputs)
    fitting = [words for words, model in models_at(program, width) if fits(model, log)]
    found = {}
    for pair in itertools.product(numbers, numbers):
        pairs = {(words[pair[0]], words[pair[1]]) for words in fitting}
        outcomes = {outcome_of(width, *words) for words in pairs}
        found[pair] = tuple(outcome for outcome in OUTCOMES if outcome in outcomes)
    return found


def programs(seed, numbers=((1, 6), (2, 12), (3, 6), (4, 1))):
    drawn = random.Random(seed)
    found = [drawn_program(drawn, inputs, drawn.choice((5, 8, 12))) for inputs, many in numbers for _ in range(many)]
    return found + [ORDER, ROUND, SORTS, Program(2, []), Program(1, [("jif", "e", 0)]), Program(2, [("jump", 0)])]


def logs_for(random, program):
    """Logs of some runs with some decisions left out, one changed or one more, and others."""
    found = [[], [True], [False], [None], [None, True], [False, None, False]]
    models = [model for _, model in models_at(program, 2)]
    for _ in range(6):
        made = random.choice(models).decisions(random.choice((1, 2, 4, 60)))
        blurred = [random.choice((jumped, jumped, None)) for jumped in made]
        found += [made, blurred, blurred + [None], blurred + [True]]
        if made:
            place = random.randrange(len(made))
            found.append(made[:place] + [not made[place]] + made[place + 1:])
    return [log for log in found if len(log) <= 60]


class DecisionsTest(BranchTestCase):

    def test_against_models(self):
        drawn = random.Random(90)
        lengths = set()
        for program in programs(91):
            for width in (1, 2, 3, 64, 300):
                words = tuple(drawn.randrange(2 ** width) for _ in range(program.inputs))
                model = Model(program, width, words)
                for most in (0, 1, 2, len(model.jumps), len(model.jumps) + 1, 60, 200):
                    found = decisions(program, width, words, most)
                    self.assert_same(found, model.decisions(most))
                    lengths.add((model.ending, len(found) == most))
        for ending in ("stop", "fault", "endless"):
            self.assertTrue({(ending, False), (ending, True)} <= lengths)

    def test_all_words(self):
        for program in programs(92, ((2, 5), (3, 2))):
            for width in (1, 2):
                for words, model in models_at(program, width):
                    self.assert_same(decisions(program, width, words, 9), model.decisions(9))

    def test_stops(self):
        found = [decisions(ORDER, 4, (9, 2), most) for most in (0, 1, 3, 4, 5, 200)]
        wanted = [False, True, True, False]
        self.assert_same(found, [[], [False], [False, True, True], wanted, wanted, wanted])

    def test_faults(self):
        """At the `jif` that faults nothing is decided."""
        fault = Program(1, [("jif", "e", 0)])
        self.assert_same([decisions(fault, 4, (9,), most) for most in (0, 1, 200)], [[], [], []])
        # The second run of a row has a flag, the `cmov` behind it none.
        later = Program(2, [("jump", 2), ("cmov", "e", "p", "q"), ("jif", "e", 1)])
        self.assert_same(decisions(later, 4, (9, 9), 200), [])

    def test_endless(self):
        self.assert_same(decisions(ROUND, 4, (2, 9), 7), [False, False, True, True, True, True, True])
        self.assert_same(decisions(ROUND, 4, (9, 9), 8), [True, False, False, False, False, False, False, False])
        self.assert_same(decisions(ROUND, 4, (9, 9), 200), [True] + [False] * 199)
        self.assert_same(decisions(ROUND, 4, (9, 9), 0), [])
        # Three turns until a state comes again, the decisions of which are different.
        turns = Program(2, [
            ("swap", "p", "q"), ("cmp", "p", "q"), ("jif", "b", 4), ("jump", 0), ("swap", "x", "y"), ("jump", 0),
        ])
        self.assert_same(decisions(turns, 4, (1, 2), 7), [False, True] * 3 + [False])
        self.assert_same(decisions(turns, 4, (2, 1), 200), [True, False] * 100)

    def test_endless_without_more_decisions(self):
        program = Program(2, [("cmp", "p", "q"), ("jif", "e", 0), ("jif", "ne", 3), ("jump", 3)])
        self.assert_same(decisions(program, 4, (1, 2), 200), [False, True])
        self.assert_same(decisions(program, 4, (2, 2), 200), [True] * 200)
        self.assert_same(decisions(Program(2, [("jump", 0)]), 4, (2, 2), 200), [])

    def test_jump_to_the_next_row_is_a_jump(self):
        program = Program(2, [("cmp", "p", "q"), ("jif", "e", 2), ("jif", "ne", 3)])
        self.assert_same([decisions(program, 4, words, 3) for words in ((1, 1), (1, 2))], [[True, False], [False, True]])

    def test_new_list_each_time(self):
        found = decisions(ORDER, 4, (9, 2), 5)
        found.append(None)
        self.assert_same(decisions(ORDER, 4, (9, 2), 5), [False, True, True, False])


class FittingTest(BranchTestCase):

    def test_against_all_words(self):
        drawn = random.Random(93)
        found = []
        for program in programs(94):
            for log in logs_for(drawn, program):
                before = log[:]
                for width in (1, 2, 3) if program.inputs < 4 else (1, 2):
                    wanted = sum(1 for _, model in models_at(program, width) if fits(model, log))
                    found.append(wanted)
                    self.assert_same(count_fitting(program, width, log), wanted)
                self.assert_same(log, before)
        self.assertGreater(found.count(0), 50)
        self.assertGreater(len(set(found)), 20)

    def test_sum_over_the_next_decision(self):
        drawn = random.Random(95)
        for program in programs(96):
            for log in drawn.sample(logs_for(drawn, program), 8):
                for width in (8, 64, 300):
                    parts = [count_fitting(program, width, log + [jumped]) for jumped in (True, False)]
                    self.assertEqual(count_fitting(program, width, log + [None]), sum(parts))
                    self.assertGreaterEqual(count_fitting(program, width, log), sum(parts))
                    if "none" not in next_decisions(program, log):
                        self.assertEqual(count_fitting(program, width, log), sum(parts))

    def test_empty_logs(self):
        for program in programs(97):
            for width in (1, 3, 64, 300):
                self.assert_same(count_fitting(program, width, []), 2 ** (width * program.inputs))

    def test_logs_without_knowledge(self):
        """They ask only for the number of decisions."""
        # Two words that ascend and have the same sign make an endless run.
        self.assert_same([count_fitting(ORDER, 8, log) for log in NO_LOGS], [2 ** 16] * 3 + [2 * 128 * 127 // 2] * 2)
        self.assert_same([count_fitting(SORTS, 8, log) > 0 for log in NO_LOGS], [True, True, True, False, False])
        self.assert_same([count_fitting(ROUND, 8, log) for log in NO_LOGS], [2 ** 16] * 5)
        self.assert_same([count_fitting(Program(2, []), 8, log) for log in NO_LOGS], [2 ** 16, 0, 0, 0, 0])

    def test_logs_longer_than_the_run(self):
        for program, log in ((ORDER, [False, True, True, False]), (SORTS, [False, False, True, True])):
            self.assertGreater(count_fitting(program, 8, log), 0)
            for more in (True, False, None):
                self.assert_same(count_fitting(program, 8, log + [more]), 0)
                self.assert_same(next_decisions(program, log + [more]), ())
                self.assert_same(relations(program, log + [more], 0, 1), ())

    def test_values(self):
        every = 2 ** 300
        self.assert_same(count_fitting(ORDER, 1, [True, None]), 3)
        self.assert_same(count_fitting(ORDER, 300, [True]), (every + 1) * every // 2)
        self.assert_same(count_fitting(ORDER, 300, [False]), (every - 1) * every // 2)
        self.assert_same(count_fitting(ORDER, 300, [False] + [True] * 59), 0)


class RelationsTest(BranchTestCase):

    def test_against_all_words(self):
        drawn = random.Random(98)
        found = []
        for program in programs(99):
            for log in logs_for(drawn, program):
                before = log[:]
                for (first, second), wanted in relations_by_runs(program, log).items():
                    found.append(wanted)
                    self.assert_same(relations(program, log, first, second), wanted)
                self.assert_same(log, before)
        self.assertGreater(len(set(found)), 8)

    def test_one_input_with_itself(self):
        for number in (0, 1):
            self.assert_same(relations(ORDER, [], number, number), ("E",))
            self.assert_same(relations(ORDER, [True, False], number, number), ("E",))
            self.assert_same(relations(ORDER, [False, False, False], number, number), ())

    def test_values(self):
        self.assert_same(relations(ORDER, [], 0, 1), OUTCOMES)
        self.assert_same(relations(ORDER, [True], 0, 1), ("E", "LB", "GB"))
        self.assert_same(relations(ORDER, [False], 0, 1), ("GA", "LA"))
        self.assert_same(relations(ORDER, [False], 1, 0), ("LB", "GB"))
        self.assert_same(relations(ORDER, [None, True], 0, 1), ("LB", "LA"))
        # What is known of two pairs tells about the third one.
        self.assert_same(relations(SORTS, [True, True], 0, 2), ("E", "LB", "LA"))
        self.assert_same(relations(SORTS, [False, True], 0, 1), ("GA", "GB"))
        self.assert_same(relations(SORTS, [False, True], 0, 2), ("E", "LB", "LA"))
        self.assert_same(relations(SORTS, [True, False, True, False, True], 0, 2), ())

    def test_inputs_not_registers(self):
        moved = Program(2, [("swap", "p", "q"), ("cmp", "p", "q"), ("jif", "l", 3)])
        self.assert_same(relations(moved, [True], 0, 1), ("GA", "GB"))


class NextDecisionsTest(BranchTestCase):

    def test_against_all_words(self):
        drawn = random.Random(100)
        found = []
        for program in programs(101):
            for log in logs_for(drawn, program):
                before = log[:]
                found.append(next_by_runs(program, log))
                self.assert_same(next_decisions(program, log), found[-1])
                self.assert_same(log, before)
        for wanted in ((), ("taken",), ("passed",), ("none",), ("taken", "passed")):
            self.assertGreater(found.count(wanted), 3)

    def test_each_answer(self):
        many = Program(2, [("cmp", "p", "q"), ("jif", "e", 3), ("jif", "mixed", 4), ("stop",), ("jif", "l", 5)])
        self.assert_same(next_decisions(many, []), ("taken", "passed"))
        self.assert_same(next_decisions(many, [True]), ("none",))
        self.assert_same(next_decisions(many, [None]), ("taken", "passed", "none"))
        self.assert_same(next_decisions(many, [False]), ("taken", "passed"))
        self.assert_same(next_decisions(many, [None, None]), ("taken", "passed", "none"))
        self.assert_same(next_decisions(many, [False, True, None]), ("none",))
        self.assert_same(next_decisions(many, [True, None]), ())
        self.assert_same(next_decisions(Program(1, []), []), ("none",))
        self.assert_same(next_decisions(Program(1, [("jif", "e", 0)]), []), ("none",))
        self.assert_same(next_decisions(Program(1, [("cmp", "p", "x"), ("jif", "e", 1)]), [True] * 60), ("taken",))
        self.assert_same(next_decisions(Program(1, [("cmp", "p", "x"), ("jif", "ne", 1)]), []), ("passed",))
        # Only equal inputs jump, and only others stop behind another decision.
        some = Program(2, [("cmp", "p", "q"), ("jif", "e", 1), ("stop",)])
        self.assert_same([next_decisions(some, log) for log in ([None], [True], [False])],
                         [("taken", "none"), ("taken",), ("none",)])


class ErrorsTest(BranchTestCase):

    def test_decisions(self):
        for most in (0, 5, 200, -1, -HUGE):
            for width in (0, -1, -300, -HUGE):
                for words in ((0, 0), (), (-1, 0), (9, 9, 9)):
                    self.assert_error(InvalidWidth, width, decisions, ORDER, width, words, most)
            for words in ((), (1,), (1, 2, 3), (-1,), (HUGE, HUGE, HUGE)):
                self.assert_error(InvalidWords, None, decisions, ORDER, 4, words, most)
            for words, index in (((-1, 3), 0), ((3, -1), 1), ((16, 16), 0), ((15, 16), 1), ((0, HUGE), 1)):
                self.assert_error(InvalidWords, index, decisions, ORDER, 4, words, most)
        for most in (-1, -2, -HUGE):
            for program in (ORDER, ROUND, Program(2, [])):
                self.assert_error(InvalidNumber, most, decisions, program, 4, (9, 2), most)

    def test_widths(self):
        for width in (0, -1, -300, -HUGE):
            for log in ([], [True], [None] * 60):
                self.assert_error(InvalidWidth, width, count_fitting, ORDER, width, log)

    def test_numbers(self):
        for log in ([], [True], [None] * 60):
            for number in (-1, 2, 3, HUGE, -HUGE):
                self.assert_error(InvalidNumber, number, relations, ORDER, log, number, 0)
                self.assert_error(InvalidNumber, number, relations, ORDER, log, 1, number)
                self.assert_error(InvalidNumber, number, relations, ORDER, log, number, -7)
        self.assert_error(InvalidNumber, 1, relations, Program(1, []), [], 0, 1)
        self.assert_same(relations(Program(4, []), [], 3, 0), OUTCOMES)


class InterfaceTest(BranchTestCase):

    def test_defined_in_this_file(self):
        for function in FUNCTIONS:
            self.assertEqual(function.__module__, "branchorders.logs")
            self.assertIs(getattr(logs_file, function.__name__), function)

    def test_by_name(self):
        self.assert_same(decisions(most=5, words=(9, 2), width=4, program=ORDER), [False, True, True, False])
        self.assert_same(count_fitting(log=[True, None], width=1, program=ORDER), 3)
        self.assert_same(relations(second=1, first=0, log=[True, False], program=ORDER), ("E", "GB"))
        self.assert_same(next_decisions(log=[False], program=ORDER), ("taken", "passed"))

    def test_errors_by_name(self):
        self.assert_error(InvalidWords, None, decisions, most=-1, words=(9,), width=4, program=ORDER)
        self.assert_error(InvalidWidth, 0, count_fitting, log=[], width=0, program=ORDER)
        self.assert_error(InvalidNumber, 2, relations, second=-1, first=2, log=[], program=ORDER)

    def test_logs_are_not_kept(self):
        log = [True, None]
        found = (count_fitting(ORDER, 3, log), relations(ORDER, log, 0, 1), next_decisions(ORDER, log))
        kept = copy.deepcopy(found)
        log.append(False)
        self.assert_same(found, kept)
        self.assert_same((count_fitting(ORDER, 3, [True, None]), next_decisions(ORDER, [True, None])), found[::2])


if __name__ == "__main__":
    unittest.main()
