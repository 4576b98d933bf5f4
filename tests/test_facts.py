"""Points 5, 7, 8 and 10, and the interface of branchorders/facts.py."""

import random
import unittest

from branchorders import facts as facts_file
from branchorders.comparing import are_alike
from branchorders.errors import InvalidRegister, InvalidRow, InvalidWidth
from branchorders.facts import acting, dead_rows, first_reaching, outcomes_at, simplified
from branchorders.programs import Program
from branchorders.runs import run
from helpers import HUGE, OUTCOMES, BranchTestCase, outcome_of
from models import ENOUGH, HOLDS, Model, drawn_program, least_tuples, models_at, names_for

FUNCTIONS = (dead_rows, acting, outcomes_at, first_reaching, simplified)

LEAST = Program(2, [("cmp", "p", "q"), ("jif", "be", 3), ("mov", "p", "q"), ("out", "p"), ("stop",), ("out", "q")])

# The row 4 is reached by two different words of one sign, so not at the width 1.
AT_TWO = Program(2, [("cmp", "p", "q"), ("jif", "e", 3), ("jif", "same", 4), ("stop",), ("out", "p")])

# The row 8 is reached by three words of one sign that ascend, so not at the width 2.
AT_THREE = Program(3, [
    ("cmp", "p", "q"), ("jif", "ge", 7), ("jif", "mixed", 7), ("cmp", "q", "r"), ("jif", "ge", 7), ("jif", "mixed", 7),
    ("jump", 8), ("stop",), ("out", "p"),
])

WIDTHS = (1, 2, 3)


def programs():
    """Drawn programs of each number of inputs; few of four, whose words are many."""
    drawn = random.Random(60)
    numbers = [(1, 15), (2, 25), (3, 15), (4, 1)]
    found = [drawn_program(drawn, inputs, drawn.choice((4, 7, 10))) for inputs, many in numbers for _ in range(many)]
    return found + [LEAST, AT_TWO, AT_THREE, Program(2, []), Program(1, [("jump", 0)]), Program(3, [("jif", "e", 0)])]


def all_models(program, width):
    return [model for _, model in models_at(program, width)]


def visits_at(program, row, width):
    """The registers and the flags when some run comes to a row."""
    return [visit[1:] for model in all_models(program, width) for visit in model.visits if visit[0] == row]


def dead_by_runs(program, width):
    reached = {row for model in all_models(program, width) for row in model.rows_reached()}
    return [row for row in range(len(program)) if row not in reached]


def acting_by_runs(program, row, width):
    flags = [flag for _, flag in visits_at(program, row, width)]
    held = HOLDS[program.rows[row][1]]
    done = [
        ("acts", any(flag in held for flag in flags)),
        ("passes", any(flag is not None and flag not in held for flag in flags)),
        ("faults", any(flag is None for flag in flags)),
    ]
    return tuple(word for word, is_done in done if is_done)


def outcomes_by_runs(program, row, first, second, width):
    pairs = {(registers[first], registers[second]) for registers, _ in visits_at(program, row, width)}
    found = {outcome_of(width, *pair) for pair in pairs}
    return tuple(outcome for outcome in OUTCOMES if outcome in found)


def reaching_by_runs(program, row, width):
    return next((words for words, model in models_at(program, width) if row in model.rows_reached()), None)


class FactsCase(BranchTestCase):

    def check_widths(self, by_runs, function, program, *arguments):
        """A function against all words of some widths, and for all widths against the width that shows all of it."""
        for width in WIDTHS:
            self.assert_same(function(program, *arguments, width), by_runs(program, *arguments, width))
        wanted = by_runs(program, *arguments, ENOUGH[program.inputs])
        self.assert_same(function(program, *arguments), wanted)
        self.assert_same(function(program, *arguments, None), wanted)
        self.assert_same(function(program, *arguments, 64), wanted)
        self.assert_same(function(program, *arguments, 300), wanted)
        return wanted


class DeadRowsTest(FactsCase):

    def test_against_all_words(self):
        found = [self.check_widths(dead_by_runs, dead_rows, program) for program in programs()]
        self.assertGreater(sum(1 for rows in found if rows), 10)
        self.assertGreater(sum(1 for rows in found if not rows), 5)

    def test_widths(self):
        self.assert_same([dead_rows(AT_TWO, width) for width in (1, 2, 3, None)], [[4], [], [], []])
        self.assert_same([dead_rows(AT_THREE, width) for width in (1, 2, 3, 300)], [[3, 4, 5, 6, 8], [6, 8], [], []])

    def test_the_end_is_no_row(self):
        self.assert_same(dead_rows(Program(1, [])), [])
        self.assert_same(dead_rows(Program(1, [("stop",)])), [])
        self.assert_same(dead_rows(Program(1, [("stop",), ("stop",), ("jump", 3)])), [1, 2])

    def test_rows_that_fault_are_reached(self):
        for row in (("jif", "e", 0), ("cmov", "ne", "p", "x")):
            self.assert_same(dead_rows(Program(1, [row, ("out", "p")])), [1])
            self.assert_same(dead_rows(Program(1, [("jump", 2), ("out", "p"), row])), [1])

    def test_new_list_each_time(self):
        found = dead_rows(LEAST)
        found.append(0)
        self.assert_same(dead_rows(LEAST), [5])


class ActingTest(FactsCase):

    def test_against_all_words(self):
        found = []
        for program in programs():
            for row, items in enumerate(program.rows):
                if items[0] in ("cmov", "jif"):
                    found.append(self.check_widths(acting_by_runs, acting, program, row))
        for wanted in ((), ("acts",), ("passes",), ("acts", "passes")):
            self.assertGreater(found.count(wanted), 3)

    def test_faults(self):
        for items in (("jif", "e", 1), ("cmov", "e", "p", "q")):
            self.assert_same(acting(Program(2, [items]), 0), ("faults",))
        # The flag is set only behind the compare, and the second time round the row 1 has one.
        around = Program(2, [("jump", 2), ("cmp", "p", "q"), ("jif", "e", 1)])
        self.assert_same(acting(around, 2), ("faults",))
        some = Program(2, [("cmp", "p", "q"), ("jif", "e", 3), ("stop",), ("cmov", "ne", "p", "q")])
        self.assert_same([acting(some, 1), acting(some, 3)], [("acts", "passes"), ("passes",)])

    def test_dead_row(self):
        dead = Program(2, [("stop",), ("jif", "e", 0), ("cmov", "e", "p", "q")])
        for width in (None, 1, 2, 300):
            self.assert_same([acting(dead, 1, width), acting(dead, 2, width)], [(), ()])

    def test_widths(self):
        program = Program(2, [("cmp", "p", "q"), ("jif", "e", 2), ("cmov", "same", "p", "q")])
        self.assert_same([acting(program, 2, width) for width in (1, 2)], [("acts", "passes")] * 2)
        only = Program(2, [("cmp", "p", "q"), ("jif", "e", 3), ("jif", "same", 3)])
        self.assert_same([acting(only, 2, width) for width in (1, 2, None)],
                         [("passes",), ("acts", "passes"), ("acts", "passes")])


class OutcomesAtTest(FactsCase):

    def test_against_all_words(self):
        drawn = random.Random(61)
        found = []
        for program in programs():
            names = names_for(program.inputs)
            for row in range(len(program) + 1):
                first, second = drawn.choice(names), drawn.choice(names)
                for pair in {(first, second), (second, first), ("p", "x")}:
                    found.append(self.check_widths(outcomes_by_runs, outcomes_at, program, row, *pair))
        for outcomes in ((), ("E",), OUTCOMES):
            self.assertGreater(found.count(outcomes), 20)
        self.assertGreater(len(set(found)), 10)

    def test_same_register_twice(self):
        for name in ("p", "q", "x", "y"):
            self.assert_same(outcomes_at(LEAST, 3, name, name), ("E",))
            self.assert_same(outcomes_at(LEAST, 5, name, name), ())

    def test_other_registers(self):
        kept = Program(2, [("mov", "x", "q"), ("cmp", "x", "y"), ("jif", "mixed", 4), ("stop",), ("swap", "x", "y")])
        self.assert_same(outcomes_at(kept, 0, "x", "y"), ("E",))
        self.assert_same(outcomes_at(kept, 0, "x", "q"), OUTCOMES)
        self.assert_same(outcomes_at(kept, 3, "x", "y"), ("E", "LB", "GA"))
        self.assert_same(outcomes_at(kept, 4, "x", "y"), ("GB", "LA"))
        self.assert_same(outcomes_at(kept, 5, "x", "y"), ("GB", "LA"))
        self.assert_same(outcomes_at(kept, 5, "q", "p"), ("GB", "LA"))

    def test_end(self):
        self.assert_same(outcomes_at(Program(2, []), 0, "p", "q"), OUTCOMES)
        self.assert_same(outcomes_at(Program(2, []), 0, "p", "q", 1), ("E", "GB", "LA"))
        # A `stop` in the last row does not go on behind it, a jump may.
        self.assert_same(outcomes_at(Program(2, [("stop",)]), 1, "p", "q"), ())
        self.assert_same(outcomes_at(Program(2, [("jump", 2), ("stop",)]), 2, "p", "q"), OUTCOMES)
        self.assert_same(outcomes_at(LEAST, 6, "p", "q"), ())

    def test_fault(self):
        for items in (("jif", "e", 0), ("cmov", "ne", "p", "q")):
            self.assert_same(outcomes_at(Program(2, [items]), 0, "q", "p", 1), ("E", "GB", "LA"))
            self.assert_same(outcomes_at(Program(2, [items]), 1, "q", "p"), ())


class FirstReachingTest(FactsCase):

    def test_against_all_words(self):
        found = []
        for program in programs():
            for row in range(len(program) + 1):
                for width in WIDTHS:
                    found.append(reaching_by_runs(program, row, width))
                    self.assert_same(first_reaching(program, row, width), found[-1])
        self.assertGreater(found.count(None), 50)
        self.assertGreater(len(set(found)), 10)

    def test_great_widths(self):
        drawn = random.Random(62)
        for number in range(25):
            inputs = 1 + number % 4
            program = drawn_program(drawn, inputs, 7)
            for width in (64, 300) if inputs < 4 else (300,):
                reached = [(words, Model(program, width, words).rows_reached()) for words in least_tuples(width, inputs)]
                for row in range(len(program) + 1):
                    wanted = next((words for words, rows in reached if row in rows), None)
                    self.assert_same(first_reaching(program, row, width), wanted)

    def test_where_it_is(self):
        half = 2 ** 299
        signs = Program(2, [("cmp", "p", "q"), ("jif", "l", 3), ("stop",), ("jif", "b", 5), ("out", "p"), ("out", "q")])
        wanted = [(0, 0), (0, 0), (0, 0), (0, 1), (half, 0), (0, 1), (0, 1)]
        self.assert_same([first_reaching(signs, row, 300) for row in range(7)], wanted)
        self.assert_same([first_reaching(AT_TWO, 4, width) for width in (1, 2, 300)], [None, (0, 1), (0, 1)])
        self.assert_same([first_reaching(AT_THREE, 8, width) for width in (1, 2, 3)], [None, None, (0, 1, 2)])
        self.assert_same(first_reaching(LEAST, 5, 300), None)
        self.assert_same([first_reaching(LEAST, 6, 300), first_reaching(AT_TWO, 5, 300)], [None, (0, 1)])

    def test_all_widths(self):
        """The first words of all widths are those of the least width of a ranking."""
        self.assert_same([first_reaching(AT_THREE, row, None) for row in (7, 8)], [(0, 0, 0), (0, 1, 2)])
        self.assert_same(first_reaching(LEAST, 5, None), None)


def simplified_by_runs(program, width):
    """Row by row as the document says, by the behaviours of the runs with all words."""
    kept = program
    row = len(kept) - 1
    while row >= 0:
        shorter = kept.without(row)
        pairs = zip(models_at(program, width), models_at(shorter, width))
        if all(model.behaviour() == other.behaviour() for (_, model), (_, other) in pairs):
            kept = shorter
            row = len(kept)
        row -= 1
    return kept


class SimplifiedTest(BranchTestCase):

    def check(self, program):
        for width in WIDTHS:
            found = simplified(program, width)
            self.assert_same(found.rows, simplified_by_runs(program, width).rows)
            self.assert_same(found.inputs, program.inputs)
            self.assert_same(simplified(found, width).rows, found.rows)
            self.assertTrue(are_alike(program, found, width))
        found = simplified(program)
        self.assert_same(found.rows, simplified(program, ENOUGH[program.inputs]).rows)
        self.assert_same(simplified(program, None).rows, found.rows)
        self.assert_same(simplified(found).rows, found.rows)
        return found

    def test_drawn(self):
        drawn = random.Random(63)
        lengths = []
        for inputs, many in ((1, 12), (2, 14), (3, 3)):
            for _ in range(many):
                program = drawn_program(drawn, inputs, drawn.choice((4, 7, 10)))
                lengths.append(len(self.check(program)))
        self.assertGreater(len(set(lengths)), 3)

    def test_examples(self):
        for rows, wanted in (
            ([], []),
            ([("stop",)], []),
            ([("mov", "p", "x"), ("out", "q"), ("stop",), ("out", "p")], [("out", "q")]),
            ([("out", "p"), ("stop",), ("out", "q"), ("out", "q")], [("out", "p")]),
            ([("jump", 0)], [("jump", 0)]),
            ([("cmp", "p", "q"), ("swap", "x", "y"), ("jump", 0)], [("jump", 0)]),
            ([("jump", 1), ("jump", 1)], [("jump", 0)]),
            ([("out", "p"), ("out", "x"), ("jump", 0)], [("out", "p"), ("jump", 0)]),
            ([("out", "p"), ("out", "x"), ("jump", 1)], [("out", "x"), ("jump", 0)]),
            ([("jif", "e", 0), ("out", "p")], [("jif", "e", 0)]),
            ([("cmov", "e", "p", "q"), ("jif", "e", 0)], [("cmov", "e", "p", "q")]),
        ):
            self.assert_same(self.check(Program(2, rows)).rows, wanted)

    def test_the_last_row_first(self):
        """Of two rows of which either alone can be left out, the last one is."""
        twice = Program(2, [("swap", "p", "x"), ("mov", "x", "p"), ("cmp", "p", "p"), ("cmp", "q", "q"), ("jif", "ne", 0)])
        self.assert_same(self.check(twice).rows, [])
        pair = Program(2, [("cmp", "p", "q"), ("cmp", "x", "q"), ("jif", "l", 4), ("out", "p"), ("out", "q")])
        self.assert_same(self.check(pair).rows, [("cmp", "p", "q"), ("jif", "l", 3), ("out", "p"), ("out", "q")])
        copies = Program(2, [("mov", "p", "q"), ("mov", "x", "q"), ("mov", "p", "x"), ("out", "p")])
        self.assert_same(self.check(copies).rows, [("mov", "p", "q"), ("out", "p")])

    def test_a_row_that_is_needless_only_later(self):
        """The row 0 is needless as soon as the row 1 is gone."""
        later = Program(2, [("swap", "p", "q"), ("swap", "q", "p"), ("out", "p")])
        found = self.check(later)
        self.assert_same(found.rows, later.rows)
        chain = Program(2, [("mov", "x", "q"), ("mov", "y", "x"), ("out", "p")])
        self.assert_same(self.check(chain).rows, [("out", "p")])

    def test_width(self):
        two = Program(2, [("cmp", "p", "q"), ("jif", "e", 4), ("jif", "mixed", 4), ("out", "p")])
        self.assert_same(simplified(two, 1).rows, [])
        self.assert_same(simplified(two, 2).rows, two.rows)
        self.assert_same(simplified(two).rows, two.rows)

    def test_twelve_rows(self):
        drawn = random.Random(64)
        for _ in range(3):
            program = drawn_program(drawn, 3, 12)
            found = simplified(program)
            self.assertTrue(are_alike(program, found))
            for row in range(len(found)):
                self.assertFalse(are_alike(found, found.without(row)))

    def test_argument_stays(self):
        rows = LEAST.rows
        self.assert_same(simplified(LEAST).rows, rows[:4])
        self.assert_same(LEAST.rows, rows)
        self.assert_same(run(LEAST, 4, (9, 2)), ("stop", (2,), ()))


class ErrorsTest(BranchTestCase):

    def test_rows(self):
        for row in (-1, -2, -HUGE, 7, 8, HUGE):
            for width in (1, 300, 0, -1):
                self.assert_error(InvalidRow, row, first_reaching, LEAST, row, width)
                self.assert_error(InvalidRow, row, outcomes_at, LEAST, row, "p", "q", width)
                self.assert_error(InvalidRow, row, outcomes_at, LEAST, row, "r", "", width)
            self.assert_error(InvalidRow, row, outcomes_at, LEAST, row, "p", "q")
        self.assert_error(InvalidRow, 1, first_reaching, Program(1, []), 1, 1)

    def test_rows_of_acting(self):
        for row in (-1, -2, -5, -HUGE, 0, 2, 3, 4, 5, 6, 7, HUGE):
            self.assert_error(InvalidRow, row, acting, LEAST, row)
            for width in (None, 1, 0, -1, -HUGE):
                self.assert_error(InvalidRow, row, acting, LEAST, row, width)
        others = Program(1, [
            ("cmp", "p", "x"), ("mov", "p", "x"), ("swap", "p", "x"), ("jump", 0), ("out", "p"), ("stop",),
        ])
        for row in range(7):
            self.assert_error(InvalidRow, row, acting, others, row)
        jumps = Program(1, [("cmov", "e", "p", "x"), ("jif", "e", 0)])
        for row in (-1, -2, -3, 2, 3):
            self.assert_error(InvalidRow, row, acting, jumps, row)

    def test_registers(self):
        for name in ("q", "r", "s", "P", "", "px", "p ", "0", "flag"):
            for row in (0, 1):
                program = Program(1, [("out", "p")])
                for width in (None, 1, 0, -1):
                    self.assert_error(InvalidRegister, name, outcomes_at, program, row, name, "p", width)
                    self.assert_error(InvalidRegister, name, outcomes_at, program, row, "y", name, width)
                    self.assert_error(InvalidRegister, name, outcomes_at, program, row, name, "z", width)
        self.assert_error(InvalidRegister, "s", outcomes_at, Program(3, []), 0, "r", "s")
        self.assert_same(outcomes_at(Program(4, []), 0, "r", "s"), OUTCOMES)

    def test_widths(self):
        for width in (0, -1, -300, -HUGE):
            self.assert_error(InvalidWidth, width, dead_rows, LEAST, width)
            self.assert_error(InvalidWidth, width, acting, LEAST, 1, width)
            self.assert_error(InvalidWidth, width, outcomes_at, LEAST, 6, "p", "y", width)
            self.assert_error(InvalidWidth, width, first_reaching, LEAST, 6, width)
            self.assert_error(InvalidWidth, width, simplified, LEAST, width)
            self.assert_error(InvalidWidth, width, simplified, Program(1, []), width)


class InterfaceTest(BranchTestCase):

    def test_defined_in_this_file(self):
        for function in FUNCTIONS:
            self.assertEqual(function.__module__, "branchorders.facts")
            self.assertIs(getattr(facts_file, function.__name__), function)

    def test_by_name(self):
        self.assert_same([dead_rows(program=LEAST), dead_rows(width=1, program=LEAST)], [[5], [5]])
        self.assert_same(acting(row=1, program=LEAST), ("acts", "passes"))
        self.assert_same(acting(width=1, row=1, program=LEAST), ("acts", "passes"))
        self.assert_same(outcomes_at(second="q", first="p", row=3, program=LEAST), ("E", "LB", "GB"))
        self.assert_same(outcomes_at(width=1, second="q", first="p", row=3, program=LEAST), ("E", "GB"))
        self.assert_same(first_reaching(width=8, row=2, program=LEAST), (1, 0))
        self.assert_same(simplified(program=LEAST).rows, LEAST.rows[:4])
        self.assert_same(simplified(width=1, program=AT_TWO).rows, [])

    def test_errors_by_name(self):
        self.assert_error(InvalidWidth, 0, dead_rows, width=0, program=LEAST)
        self.assert_error(InvalidRow, 0, acting, width=0, row=0, program=LEAST)
        self.assert_error(InvalidRegister, "r", outcomes_at, width=0, second="z", first="r", row=3, program=LEAST)
        self.assert_error(InvalidRow, 7, first_reaching, width=0, row=7, program=LEAST)
        self.assert_error(InvalidWidth, 0, simplified, width=0, program=LEAST)


if __name__ == "__main__":
    unittest.main()
