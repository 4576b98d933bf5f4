"""Point 7, and the interface of branchorders/programs.py."""

import copy
import random
import unittest

from branchorders import programs as programs_file
from branchorders.errors import InvalidProgram, InvalidRow, UnlikeInputs
from branchorders.programs import Program
from helpers import HUGE, MEANINGS, BranchTestCase
from models import drawn_rows, names_for

# Every kind of row, for two inputs.
EVERY_KIND = [
    ("cmp", "p", "q"), ("mov", "q", "x"), ("swap", "x", "y"), ("cmov", "mixed", "y", "p"), ("jump", 6),
    ("jif", "be", 8), ("out", "y"), ("stop",),
]

EXCHANGED = {"l": "b", "le": "be", "g": "a", "ge": "ae", "b": "l", "be": "le", "a": "g", "ae": "ge"}
MIRRORED = {"l": "g", "le": "ge", "g": "l", "ge": "le", "b": "a", "be": "ae", "a": "b", "ae": "be"}

CONDITIONS = [condition for condition, _ in MEANINGS]


class OtherThing:
    """No program, but with the same attributes."""

    def __init__(self, inputs, rows):
        self.inputs, self.rows = inputs, rows


class ProgramTest(BranchTestCase):

    def test_every_kind_of_row(self):
        for many in range(len(EVERY_KIND) + 1):
            rows = [row for row in EVERY_KIND[:many] if row[0] not in ("jump", "jif")]
            program = Program(2, rows)
            self.assert_same(program.inputs, 2)
            self.assert_same(program.rows, rows)
            self.assert_same(len(program), len(rows))
        self.assert_same(Program(2, EVERY_KIND).rows, EVERY_KIND)
        self.assert_same(len(Program(2, EVERY_KIND)), 8)

    def test_every_register(self):
        for inputs in (1, 2, 3, 4):
            for name in names_for(inputs):
                for other in names_for(inputs):
                    rows = [("cmp", name, other), ("mov", name, other), ("swap", name, other), ("out", name)]
                    rows.append(("cmov", "e", name, other))
                    self.assert_same(Program(inputs, rows).rows, rows)

    def test_every_condition(self):
        rows = [("cmov", condition, "p", "x") for condition in CONDITIONS]
        rows += [("jif", condition, 0) for condition in CONDITIONS]
        self.assert_same(Program(1, rows).rows, rows)

    def test_every_target(self):
        rows = [("jump", target) for target in range(9)] + [("jif", "e", target) for target in range(19)]
        rows += [("stop",)] * 12
        self.assertEqual(len(rows), 40)
        self.assert_same(Program(4, rows).rows, rows)
        ends = [("jump", 2), ("jif", "l", 2)]
        self.assert_same(Program(1, ends).rows, ends)

    def test_no_rows(self):
        for inputs in (1, 2, 3, 4):
            program = Program(inputs, [])
            self.assert_same((program.inputs, program.rows, len(program)), (inputs, [], 0))

    def test_passed_list_is_not_changed(self):
        rows = copy.deepcopy(EVERY_KIND)
        program = Program(2, rows)
        program.without(3)
        program.exchanged()
        program.mirrored()
        program + program
        program.rows.clear()
        self.assert_same(rows, EVERY_KIND)

    def test_passed_list_is_not_kept(self):
        rows = copy.deepcopy(EVERY_KIND)
        program = Program(2, rows)
        rows[0] = ("stop",)
        rows.append(("stop",))
        self.assert_same(program.rows, EVERY_KIND)
        rows.clear()
        self.assert_same((program.rows, len(program)), (EVERY_KIND, 8))
        self.assertTrue(program == Program(2, EVERY_KIND))

    def test_rows_are_a_new_list(self):
        program = Program(2, EVERY_KIND)
        self.assertIsNot(program.rows, program.rows)
        program.rows.append(("stop",))
        program.rows[0] = ("stop",)
        found = program.rows
        found.clear()
        self.assert_same((program.rows, len(program)), (EVERY_KIND, 8))


class EqualityTest(BranchTestCase):

    def assert_equal_programs(self, first, second, wanted):
        for one, other in ((first, second), (second, first)):
            self.assertIs(one == other, wanted)
            self.assertIs(one != other, not wanted)

    def test_equal(self):
        for inputs in (2, 3, 4):
            self.assert_equal_programs(Program(inputs, EVERY_KIND), Program(inputs, list(EVERY_KIND)), True)
            self.assert_equal_programs(Program(inputs, []), Program(inputs, []), True)
        program = Program(2, EVERY_KIND)
        self.assert_equal_programs(program, program, True)

    def test_other_rows(self):
        rows = [("cmp", "p", "x"), ("jif", "e", 0), ("out", "p")]
        program = Program(1, rows)
        for others in (rows[:2], rows + [("stop",)], rows[::-1], [("cmp", "x", "p")] + rows[1:],
                       [rows[0], ("jif", "e", 1), rows[2]], [rows[0], ("jif", "be", 0), rows[2]], []):
            self.assert_equal_programs(program, Program(1, others), False)

    def test_other_inputs(self):
        for first in (1, 2, 3, 4):
            for second in (1, 2, 3, 4):
                for rows in ([], [("out", "p")], [("cmp", "p", "x"), ("jif", "e", 0)]):
                    self.assert_equal_programs(Program(first, rows), Program(second, rows), first == second)

    def test_other_things(self):
        for program in (Program(2, EVERY_KIND), Program(1, []), Program(1, [("stop",)])):
            others = (program.rows, tuple(program.rows), (program.inputs, program.rows), [program.inputs, program.rows],
                      None, 0, 1, 2, len(program), "", "stop", "inputs 1; stop", {}, True, False, Program, object(),
                      OtherThing(program.inputs, program.rows))
            for other in others:
                self.assert_equal_programs(program, other, False)
            self.assertNotIn(program, others)


class SumTest(BranchTestCase):

    def test_targets_are_moved(self):
        first = Program(2, [("cmp", "p", "q"), ("jif", "l", 3), ("jump", 0)])
        second = Program(2, [("jump", 2), ("jif", "be", 0), ("out", "p"), ("jif", "e", 4), ("cmov", "a", "x", "p")])
        second = second + Program(2, [("mov", "p", "q"), ("swap", "p", "x"), ("stop",)])
        self.assert_same((first + second).rows, first.rows + [
            ("jump", 5), ("jif", "be", 3), ("out", "p"), ("jif", "e", 7), ("cmov", "a", "x", "p"),
            ("mov", "p", "q"), ("swap", "p", "x"), ("stop",),
        ])
        self.assert_same((first + second).inputs, 2)

    def test_targets_at_the_end(self):
        """The end of the first one is the beginning of the second one, and the end of the second one the end."""
        ends = Program(1, [("cmp", "p", "p"), ("jif", "e", 3), ("jump", 3)])
        self.assert_same((ends + ends).rows, [
            ("cmp", "p", "p"), ("jif", "e", 3), ("jump", 3), ("cmp", "p", "p"), ("jif", "e", 6), ("jump", 6),
        ])
        self.assert_same((ends + ends + ends).rows[7:], [("jif", "e", 9), ("jump", 9)])

    def test_empty_programs(self):
        for inputs in (1, 2, 3, 4):
            empty = Program(inputs, [])
            some = Program(inputs, [("jump", 1), ("jump", 0), ("jump", 3)])
            self.assert_same((empty + empty).rows, [])
            self.assert_same((empty + some).rows, some.rows)
            self.assert_same((some + empty).rows, some.rows)
            self.assertEqual((empty + some, some + empty, (empty + empty).inputs), (some, some, inputs))

    def test_drawn(self):
        drawn = random.Random(7)
        for number in range(200):
            inputs = 1 + number % 4
            first = Program(inputs, drawn_rows(drawn, inputs, drawn.randint(0, 20)))
            second = Program(inputs, drawn_rows(drawn, inputs, drawn.randint(0, 20)))
            before = (first.rows, second.rows)
            wanted = list(first.rows)
            for row in second.rows:
                jumps = row[0] in ("jump", "jif")
                wanted.append(row[:-1] + (row[-1] + len(first),) if jumps else row)
            total = first + second
            self.assertIs(type(total), Program)
            self.assert_same((total.inputs, total.rows), (inputs, wanted))
            self.assert_same((first.rows, second.rows), before)

    def test_other_inputs(self):
        for first in (1, 2, 3, 4):
            for second in (1, 2, 3, 4):
                if first != second:
                    for rows in ([], [("out", "p"), ("jump", 0)]):
                        one, other = Program(first, rows), Program(second, rows)
                        self.assert_error(UnlikeInputs, None, lambda: one + other)
                        self.assert_same((one.inputs, one.rows), (first, rows))
                        self.assert_same((other.inputs, other.rows), (second, rows))


class WithoutTest(BranchTestCase):

    def test_each_row(self):
        rows = [("jump", 2), ("jif", "l", 0), ("out", "p"), ("jif", "ne", 5), ("jump", 3)]
        program = Program(1, rows)
        self.assert_same(program.without(0).rows, [("jif", "l", 0), ("out", "p"), ("jif", "ne", 4), ("jump", 2)])
        self.assert_same(program.without(1).rows, [("jump", 1), ("out", "p"), ("jif", "ne", 4), ("jump", 2)])
        self.assert_same(program.without(2).rows, [("jump", 2), ("jif", "l", 0), ("jif", "ne", 4), ("jump", 2)])
        self.assert_same(program.without(3).rows, [("jump", 2), ("jif", "l", 0), ("out", "p"), ("jump", 3)])
        self.assert_same(program.without(4).rows, [("jump", 2), ("jif", "l", 0), ("out", "p"), ("jif", "ne", 4)])
        self.assert_same(program.rows, rows)

    def test_targets_before_at_and_behind(self):
        """A target at the row stays, and so it is the row behind; a row that jumps to itself is no exception."""
        for row in range(5):
            for target in range(7):
                for jump in (("jump", target), ("jif", "e", target)):
                    program = Program(1, [jump] * 6)
                    moved = jump[:-1] + (target - 1 if target > row else target,)
                    self.assert_same(program.without(row).rows, [moved] * 5)

    def test_other_rows_stay(self):
        program = Program(2, EVERY_KIND)
        self.assert_same(program.without(7).rows, EVERY_KIND[:5] + [("jif", "be", 7)] + EVERY_KIND[6:7])
        self.assert_same(program.without(7).inputs, 2)
        self.assert_same(program.without(4).without(4).rows, EVERY_KIND[:4] + EVERY_KIND[6:])

    def test_the_only_row(self):
        for row in (("jump", 0), ("jump", 1), ("stop",)):
            program = Program(3, [row]).without(0)
            self.assert_same((program.inputs, program.rows, type(program)), (3, [], Program))

    def test_errors(self):
        for many in (0, 1, 2, 7):
            program = Program(1, [("jump", many)] * many)
            for row in (-1, -2, -many - 1, many, many + 1, HUGE, -HUGE):
                self.assert_error(InvalidRow, row, program.without, row)
            self.assert_same(program.rows, [("jump", many)] * many)


class ConditionsTest(BranchTestCase):

    def check(self, method, meanings):
        rows = [("cmov", condition, "p", "x") for condition in CONDITIONS]
        rows += [("jif", condition, place) for place, condition in enumerate(CONDITIONS)]
        changed = [(row[0], meanings.get(row[1], row[1])) + row[2:] for row in rows]
        program = Program(3, rows + EVERY_KIND[:3])
        found = method(program)
        self.assertIs(type(found), Program)
        self.assert_same((found.inputs, found.rows), (3, changed + EVERY_KIND[:3]))
        self.assert_same(program.rows, rows + EVERY_KIND[:3])

    def test_written_out(self):
        self.check(Program.exchanged, EXCHANGED)
        self.check(Program.mirrored, MIRRORED)

    def test_twice(self):
        drawn = random.Random(2)
        for number in range(100):
            inputs = 1 + number % 4
            program = Program(inputs, drawn_rows(drawn, inputs, drawn.randint(0, 40)))
            self.assertEqual(program.exchanged().exchanged(), program)
            self.assertEqual(program.mirrored().mirrored(), program)
            self.assertEqual(program.mirrored().exchanged(), program.exchanged().mirrored())

    def test_other_rows_stay(self):
        rows = [row for row in EVERY_KIND if row[0] not in ("cmov", "jif")]
        program = Program(2, rows)
        self.assertEqual((program.exchanged(), program.mirrored()), (program, program))
        self.assertEqual(Program(1, []).exchanged(), Program(1, []))
        self.assertEqual(Program(1, []).mirrored(), Program(1, []))


def wrong_rows():
    """Rows that no program with two inputs and with fewer than 40 rows has."""
    found = [(), ("",), ("cmpp", "p", "q"), ("CMP", "p", "q"), ("halt",), ("inputs", "p"), ("p",), (" stop",), ("nop",)]
    for row in EVERY_KIND:
        found += [row + ("p",), row + (0,), row + row[1:] + ("q",)]
        if len(row) > 1:
            found += [row[:-1], row[:1], row[1:]]
    for name in ("r", "s", "z", "t", "", "P", "pq", "px", "p ", "e"):
        found += [(word, *pair) for word in ("cmp", "mov", "swap") for pair in ((name, "p"), ("p", name), (name, name))]
        found += [("cmov", "e", name, "p"), ("cmov", "e", "p", name), ("out", name)]
    for condition in ("", "E", "LB", "Ne", "eq", "z", "p", "le ", "mixed same"):
        found += [("cmov", condition, "p", "q"), ("jif", condition, 0)]
    for target in (-1, -2, 50, 41, HUGE, -HUGE, "p", "0"):
        found += [("jump", target), ("jif", "e", target)]
    return found


class ProgramCheckTest(BranchTestCase):

    def test_inputs(self):
        for inputs in (0, 5, 6, -1, HUGE, -HUGE):
            for rows in ([], [("stop",)], [("out", "z")], [()], EVERY_KIND):
                self.assert_error(InvalidProgram, None, Program, inputs, rows)

    def test_wrong_rows(self):
        for row in wrong_rows():
            self.assert_error(InvalidProgram, 0, Program, 2, [row])
            self.assert_error(InvalidProgram, 8, Program, 2, EVERY_KIND + [row])

    def test_first_wrong_row(self):
        for row in wrong_rows():
            for place in (0, 3, 7, 8):
                rows = EVERY_KIND[:place] + [row] + EVERY_KIND[place:]
                self.assert_error(InvalidProgram, place, Program, 2, rows)
                self.assert_error(InvalidProgram, place, Program, 2, rows[:place + 1] + [("jump", -1), ()] + rows)

    def test_registers_of_other_inputs(self):
        for inputs in (1, 2, 3, 4):
            names = names_for(inputs)
            for name in ("p", "q", "r", "s", "x", "y"):
                for row in (("out", name), ("cmp", "p", name), ("mov", name, "x"), ("cmov", "e", "y", name),
                            ("swap", name, "p")):
                    if name in names:
                        self.assert_same(Program(inputs, [row]).rows, [row])
                    else:
                        self.assert_error(InvalidProgram, 0, Program, inputs, [row])
        self.assert_error(InvalidProgram, 1, Program, 1, [("out", "p"), ("cmp", "p", "q"), ("out", "q")])

    def test_targets(self):
        for many in (1, 2, 5, 40):
            for target in (many + 1, many + 2, -1, -many, HUGE, -HUGE):
                for row in (("jump", target), ("jif", "same", target)):
                    rows = [("jump", many)] * (many - 1)
                    self.assert_error(InvalidProgram, many - 1, Program, 1, rows + [row])
                    self.assert_error(InvalidProgram, 0, Program, 1, [row] + rows)

    def test_passed_list_stays(self):
        rows = [("out", "p"), ("out", "q"), ("jump", 9)]
        self.assert_error(InvalidProgram, 1, Program, 1, rows)
        self.assert_same(rows, [("out", "p"), ("out", "q"), ("jump", 9)])


class InterfaceTest(BranchTestCase):

    def test_defined_in_this_file(self):
        self.assertEqual(Program.__module__, "branchorders.programs")
        self.assertIs(programs_file.Program, Program)
        self.assertEqual(Program.__bases__, (object,))

    def test_methods_of_the_class_itself(self):
        for name in ("__init__", "inputs", "rows", "__len__", "__eq__", "__add__", "without", "exchanged", "mirrored"):
            self.assertIn(name, vars(Program))
        for name in ("inputs", "rows"):
            self.assertIsInstance(vars(Program)[name], property)

    def test_by_name(self):
        program = Program(rows=[("cmp", "p", "q"), ("jif", "be", 2)], inputs=2)
        self.assert_same((program.inputs, program.rows), (2, [("cmp", "p", "q"), ("jif", "be", 2)]))
        self.assert_same(program.without(row=0).rows, [("jif", "be", 1)])

    def test_errors_by_name(self):
        self.assert_error(InvalidProgram, None, Program, rows=[], inputs=0)
        self.assert_error(InvalidProgram, 0, Program, rows=[("out", "q")], inputs=1)
        self.assert_error(InvalidRow, 1, Program(1, [("stop",)]).without, row=1)


if __name__ == "__main__":
    unittest.main()
