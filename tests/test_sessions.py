"""Points 7 to 9, and the interface of branchorders/sessions.py."""

import copy
import random
import unittest

from branchorders import sessions as sessions_file
from branchorders.errors import (
    BranchError, InvalidNumber, InvalidRegister, InvalidRow, InvalidWidth, InvalidWords, NothingToUndo, Unreadable,
)
from branchorders.logs import decisions
from branchorders.programs import Program
from branchorders.runs import count_steps, run, steps
from branchorders.sessions import Session
from branchorders.texts import show_program, show_words
from helpers import HUGE, BranchTestCase, outcome_of
from models import HOLDS, drawn_program, drawn_rows, names_for

LEAST = Program(2, [("cmp", "p", "q"), ("jif", "be", 3), ("mov", "p", "q"), ("out", "p")])
TURN = Program(2, [("out", "p"), ("swap", "p", "q"), ("jump", 0)])
LEAST_TEXT = "inputs 2; cmp p q; jif be 3; mov p q; out p"


class Watched:
    """A session by the words of the document, as plainly as can be; everything is copied before each call."""

    def __init__(self, program, width, words):
        self.rows, self.width = program.rows, width
        self.now = {
            "row": 0, "flag": None, "registers": dict(zip(names_for(program.inputs), words + (words[0], words[0]))),
            "outs": [], "log": [], "stopped": False, "breaks": (),
        }
        self.earlier = []

    def over(self):
        now = self.now
        if now["stopped"] or now["row"] == len(self.rows):
            return True
        return self.rows[now["row"]][0] in ("cmov", "jif") and now["flag"] is None

    def shown(self):
        now = self.now
        return (now["row"], now["flag"], now["registers"], now["outs"], self.over(), now["log"])

    def remember(self):
        self.earlier.append(copy.deepcopy(self.now))

    def do_step(self):
        now = self.now
        registers = now["registers"]
        word, *items = self.rows[now["row"]]
        following = now["row"] + 1
        if word == "cmp":
            now["flag"] = outcome_of(self.width, registers[items[0]], registers[items[1]])
        elif word == "mov":
            registers[items[0]] = registers[items[1]]
        elif word == "swap":
            registers[items[0]], registers[items[1]] = registers[items[1]], registers[items[0]]
        elif word == "cmov":
            if now["flag"] in HOLDS[items[0]]:
                registers[items[1]] = registers[items[2]]
        elif word == "jump":
            following = items[0]
        elif word == "jif":
            now["log"].append(now["flag"] in HOLDS[items[0]])
            if now["log"][-1]:
                following = items[1]
        elif word == "out":
            now["outs"].append(registers[items[0]])
        elif word == "stop":
            now["stopped"] = True
            following = now["row"]
        now["row"] = following

    def step(self, count=1):
        self.remember()
        for done in range(count):
            if self.over():
                return done
            self.do_step()
        return count

    def go(self):
        self.remember()
        states = []
        while True:
            if self.over():
                return "over"
            if states and self.now["row"] in self.now["breaks"]:
                return "break"
            state = (self.now["row"], self.now["flag"], dict(self.now["registers"]))
            if state in states:
                return "endless"
            states.append(state)
            self.do_step()

    def break_at(self, *rows):
        self.remember()
        self.now["breaks"] = rows

    def poke(self, name, word):
        self.remember()
        self.now["registers"][name] = word

    def undo(self):
        self.now = self.earlier.pop()


def shown(session):
    """All that a session shows."""
    return (session.present_row, session.flag, session.registers, session.outs, session.is_over, list(session.log()))


def drawn_words(random, inputs, width):
    few = [random.randrange(2 ** width) for _ in range(2)]
    return tuple(random.choice(few + [random.randrange(2 ** width)]) for _ in range(inputs))


def drawn_call(random, program, width):
    """The name of a method and its arguments."""
    name = random.choice(("step", "step", "step", "go", "go", "break_at", "break_at", "poke", "undo"))
    rows = range(len(program))
    arguments = {
        "step": random.choice([(), (), (0,), (1,), (2,), (5,), (300,)]), "go": (), "undo": (),
        "break_at": tuple(random.choices(rows, k=random.randint(0, 3))) if rows else (),
        "poke": (random.choice(names_for(program.inputs)), random.choice((0, 1, 2 ** width - 1, 2 ** (width - 1)))),
    }
    return name, arguments[name]


class SessionCase(BranchTestCase):

    def assert_shows(self, session, row, flag, outs, is_over):
        found = (session.present_row, session.flag, session.outs, session.is_over)
        self.assert_same(found, (row, flag, outs, is_over))


class StepsTest(SessionCase):

    def test_step_by_step(self):
        """Against the rows of `steps`, and the outputs of `run`."""
        drawn = random.Random(130)
        for number in range(120):
            inputs = 1 + number % 4
            program = drawn_program(drawn, inputs, drawn.choice((3, 6, 12)))
            width = drawn.choice((1, 2, 8, 300))
            words = drawn_words(drawn, inputs, width)
            session, model = Session(program, width, words), Watched(program, width, words)
            self.assert_same(shown(session), model.shown())
            for row, flag in steps(program, width, words):
                self.assert_same((session.present_row, session.is_over), (row, False))
                self.assert_same(session.step(), 1)
                model.step()
                self.assert_same(session.flag, flag)
                self.assert_same(shown(session), model.shown())
            ending, outs, ring = run(program, width, words)
            self.assert_same(session.is_over, ending != "endless")
            if ending != "endless":
                self.assert_same(tuple(session.outs), outs)
                self.assert_same(session.step(), 0)

    def test_first(self):
        session = Session(Program(3, [("out", "p")]), 4, (9, 2, 5))
        self.assert_shows(session, 0, None, [], False)
        self.assert_same(session.registers, {"p": 9, "q": 2, "r": 5, "x": 9, "y": 9})
        self.assert_same(list(session.log()), [])
        self.assert_same(list(Session(Program(1, []), 4, (9,)).registers.items()), [("p", 9), ("x", 9), ("y", 9)])

    def test_over_from_the_beginning(self):
        self.assert_shows(Session(Program(1, []), 4, (9,)), 0, None, [], True)
        for row in (("jif", "e", 0), ("cmov", "e", "p", "x")):
            session = Session(Program(1, [row, ("out", "p")]), 4, (9,))
            self.assert_shows(session, 0, None, [], True)
            self.assert_same([session.step(), session.step(7), session.go()], [0, 0, "over"])
            self.assert_shows(session, 0, None, [], True)

    def test_ends(self):
        session = Session(Program(1, [("out", "p")]), 4, (9,))
        self.assert_same(session.step(), 1)
        self.assert_shows(session, 1, None, [9], True)
        # A `stop` is a step, and its row stays the present one; only then is the run over.
        session = Session(Program(1, [("out", "p"), ("stop",), ("out", "p")]), 4, (9,))
        self.assert_same(session.step(), 1)
        self.assert_shows(session, 1, None, [9], False)
        self.assert_same(session.step(), 1)
        self.assert_shows(session, 1, None, [9], True)
        self.assert_same(session.step(), 0)
        session = Session(Program(1, [("jump", 3), ("out", "p"), ("out", "p")]), 4, (9,))
        self.assert_same(session.step(), 1)
        self.assert_shows(session, 3, None, [], True)
        session = Session(Program(1, [("out", "x"), ("jif", "e", 0)]), 4, (9,))
        self.assert_same(session.step(), 1)
        self.assert_shows(session, 1, None, [9], True)

    def test_counts(self):
        session = Session(LEAST, 4, (9, 2))
        self.assert_same(session.step(0), 0)
        self.assert_shows(session, 0, None, [], False)
        self.assert_same(session.step(2), 2)
        self.assert_shows(session, 2, "LA", [], False)
        self.assert_same(session.step(5), 2)
        self.assert_shows(session, 4, "LA", [2], True)
        self.assert_same([session.step(1), session.step(0), session.step(5000)], [0, 0, 0])
        session = Session(TURN, 4, (9, 2))
        self.assert_same(session.step(5000), 5000)
        self.assert_same((session.present_row, session.outs), (2, [9, 2] * 833 + [9]))
        self.assert_same(session.registers, {"p": 2, "q": 9, "x": 9, "y": 9})

    def test_many_counts(self):
        for counts in ((4,), (1, 3), (3, 1), (2, 2), (0, 1, 0, 2, 1), (1, 1, 1, 1), (5,), (3, 9)):
            session = Session(LEAST, 4, (9, 2))
            self.assert_same(sum(session.step(count) for count in counts), 4)
            self.assert_shows(session, 4, "LA", [2], True)


class GoTest(SessionCase):

    def test_to_the_end(self):
        drawn = random.Random(131)
        found = []
        for number in range(150):
            inputs = 1 + number % 4
            program = drawn_program(drawn, inputs, drawn.choice((3, 6, 12)))
            words = drawn_words(drawn, inputs, 8)
            session = Session(program, 8, words)
            ending, outs, _ = run(program, 8, words)
            found.append(session.go())
            self.assert_same(found[-1], "endless" if ending == "endless" else "over")
            if ending != "endless":
                self.assert_same((tuple(session.outs), session.is_over), (outs, True))
                self.assert_same(session.go(), "over")
            many = len(list(steps(program, 8, words)))
            other = Session(program, 8, words)
            self.assert_same(other.step(many), many)
            self.assertEqual(session, other)
            self.assert_same(list(session.log()), list(other.log()))
        self.assertGreater(min(found.count("over"), found.count("endless")), 20)

    def test_to_a_fault(self):
        session = Session(Program(1, [("out", "p"), ("out", "x"), ("cmov", "e", "p", "x"), ("out", "p")]), 4, (9,))
        self.assert_same(session.go(), "over")
        self.assert_shows(session, 2, None, [9, 9], True)

    def test_breaks(self):
        session = Session(TURN, 4, (9, 2))
        session.break_at(1)
        self.assert_same(session.go(), "break")
        self.assert_shows(session, 1, None, [9], False)
        # Where it begins there is a break, and it goes past it.
        self.assert_same(session.go(), "break")
        self.assert_shows(session, 1, None, [9, 2], False)
        session.break_at(0, 2, 0)
        self.assert_same([session.go(), session.present_row], ["break", 2])
        self.assert_same([session.go(), session.present_row], ["break", 0])
        session.break_at()
        self.assert_same([session.go(), session.present_row, session.outs], ["endless", 0, [9, 2, 9, 2]])

    def test_break_at_the_first_row(self):
        session = Session(LEAST, 4, (9, 2))
        session.break_at(0)
        self.assert_same(session.go(), "over")
        session = Session(TURN, 4, (9, 2))
        session.break_at(0)
        self.assert_same([session.go(), session.outs, session.go(), session.outs], ["break", [9], "break", [9, 2]])

    def test_rows_set_before(self):
        session = Session(LEAST, 4, (9, 2))
        session.break_at(1, 2)
        session.break_at(3)
        self.assert_same([session.go(), session.present_row], ["break", 3])
        session = Session(LEAST, 4, (9, 2))
        session.break_at(1, 2, 3)
        session.break_at()
        self.assert_same([session.go(), session.present_row], ["over", 4])

    def test_break_before_endless(self):
        """Of two at one row, the first in the list."""
        loop = Program(1, [("jump", 0)])
        session = Session(loop, 4, (9,))
        self.assert_same(session.go(), "endless")
        session.break_at(0)
        self.assert_same(session.go(), "break")
        session.break_at()
        self.assert_same([session.go(), session.present_row], ["endless", 0])

    def test_over_before_break(self):
        fault = Program(1, [("out", "p"), ("jif", "e", 0)])
        session = Session(fault, 4, (9,))
        session.break_at(1)
        self.assert_same([session.go(), session.present_row], ["over", 1])
        stop = Program(1, [("out", "p"), ("stop",)])
        session = Session(stop, 4, (9,))
        session.break_at(1)
        self.assert_same([session.go(), session.is_over], ["break", False])
        self.assert_same([session.go(), session.is_over, session.present_row], ["over", True, 1])
        self.assert_same(session.go(), "over")

    def test_endless_since_this_call(self):
        """States from before the call do not count."""
        session = Session(TURN, 4, (9, 2))
        self.assert_same(session.step(5), 5)
        self.assert_same(session.go(), "endless")
        self.assert_shows(session, 2, None, [9, 2] * 2, False)
        session = Session(Program(2, [("out", "p"), ("cmp", "p", "q"), ("jump", 1)]), 4, (9, 2))
        self.assert_same(session.go(), "endless")
        self.assert_shows(session, 2, "LA", [9], False)
        self.assert_same(session.go(), "endless")
        self.assert_shows(session, 2, "LA", [9], False)

    def test_endless_or_not_by_a_poke(self):
        wait = Program(2, [("cmp", "p", "q"), ("jif", "ne", 0), ("out", "x")])
        session = Session(wait, 4, (9, 2))
        self.assert_same([session.go(), session.present_row], ["endless", 1])
        session.poke("q", 9)
        self.assert_same([session.go(), session.outs], ["over", [9]])
        leave = Program(2, [("cmp", "p", "q"), ("jif", "e", 0), ("out", "x")])
        session = Session(leave, 4, (9, 2))
        session.poke("p", 2)
        self.assert_same([session.go(), session.present_row, session.outs], ["endless", 1, []])


class PokeTest(SessionCase):

    def test_each_register(self):
        for inputs in (1, 2, 3, 4):
            program = Program(inputs, [("out", name) for name in names_for(inputs)])
            for name in names_for(inputs):
                for width in (1, 4, 300):
                    session = Session(program, width, (1,) * inputs)
                    for word in (0, 2 ** width - 1):
                        self.assert_same(session.poke(name, word), None)
                        self.assert_same(session.registers, {**dict.fromkeys(names_for(inputs), 1), name: word})
                    self.assert_same(session.go(), "over")
                    self.assert_same(session.outs, [word if name == other else 1 for other in names_for(inputs)])

    def test_what_stays(self):
        session = Session(LEAST, 4, (9, 2))
        session.step(2)
        session.poke("q", 15)
        self.assert_shows(session, 2, "LA", [], False)
        self.assert_same(session.registers, {"p": 9, "q": 15, "x": 9, "y": 9})
        self.assert_same([session.go(), session.outs], ["over", [15]])

    def test_behind_the_end(self):
        for rows, row in (([("out", "p")], 1), ([("stop",)], 0), ([("jif", "e", 0)], 0)):
            session = Session(Program(1, rows), 4, (9,))
            session.go()
            outs = session.outs
            session.poke("x", 3)
            self.assert_shows(session, row, None, outs, True)
            self.assert_same(session.registers, {"p": 9, "x": 3, "y": 9})
            self.assert_same([session.step(), session.go()], [0, "over"])

    def test_new_words(self):
        """A word may be none of those that the run began with."""
        session = Session(Program(2, [("cmp", "p", "q"), ("jif", "l", 3), ("out", "p"), ("out", "y")]), 4, (9, 2))
        session.poke("p", 5)
        session.poke("y", 7)
        self.assert_same([session.go(), session.outs, session.flag], ["over", [5, 7], "GA"])


class UndoTest(SessionCase):

    def test_each_call(self):
        session = Session(LEAST, 4, (9, 2))
        first = shown(session)
        for name, arguments in (("step", ()), ("step", (0,)), ("step", (3,)), ("go", ()), ("break_at", (2,)),
                                ("poke", ("x", 3)), ("poke", ("p", 9)), ("break_at", ())):
            getattr(session, name)(*arguments)
            self.assert_same(session.undo(), None)
            self.assert_same(shown(session), first)
            self.assert_error(NothingToUndo, 0, session.undo)

    def test_several(self):
        session = Session(LEAST, 4, (9, 2))
        kept = [shown(session)]
        for name, arguments in (("step", ()), ("poke", ("q", 12)), ("step", (0,)), ("break_at", (3,)), ("go", ()),
                                ("poke", ("p", 1)), ("go", ()), ("go", ()), ("step", (4,)), ("poke", ("y", 0))):
            getattr(session, name)(*arguments)
            kept.append(shown(session))
        self.assert_same(session.outs, [1])
        for wanted in reversed(kept[:-1]):
            session.undo()
            self.assert_same(shown(session), wanted)
        self.assert_error(NothingToUndo, 0, session.undo)
        self.assert_same(shown(session), kept[0])

    def test_breaks_come_back(self):
        session = Session(LEAST, 4, (9, 2))
        session.break_at(2)
        session.break_at(3)
        session.undo()
        self.assert_same([session.go(), session.present_row], ["break", 2])
        session.undo()
        session.undo()
        self.assert_same([session.go(), session.present_row], ["over", 4])
        session.undo()
        session.break_at(1)
        session.go()
        session.undo()
        self.assert_same([session.go(), session.present_row], ["break", 1])

    def test_calls_that_did_no_step(self):
        session = Session(LEAST, 4, (9, 2))
        session.go()
        self.assert_same([session.step(), session.go(), session.step(0)], [0, "over", 0])
        for _ in range(3):
            session.undo()
            self.assert_shows(session, 4, "LA", [2], True)
        session.undo()
        self.assert_shows(session, 0, None, [], False)
        self.assert_error(NothingToUndo, 0, session.undo)

    def test_calls_that_raised_an_error(self):
        session = Session(LEAST, 4, (9, 2))
        session.step()
        for name, arguments in (("step", (-1,)), ("break_at", (0, 4)), ("break_at", (-1,)), ("poke", ("r", 0)),
                                ("poke", ("p", 16))):
            before = shown(session)
            with self.assertRaises(BranchError):
                getattr(session, name)(*arguments)
            self.assert_same(shown(session), before)
        session.undo()
        self.assert_shows(session, 0, None, [], False)
        self.assert_error(NothingToUndo, 0, session.undo)

    def test_an_undo_is_not_taken_back(self):
        session = Session(TURN, 4, (9, 2))
        for _ in range(3):
            session.step()
        session.undo()
        session.undo()
        self.assert_shows(session, 1, None, [9], False)
        session.step(2)
        session.undo()
        self.assert_shows(session, 1, None, [9], False)
        session.undo()
        self.assert_error(NothingToUndo, 0, session.undo)

    def test_of_a_stop(self):
        session = Session(Program(1, [("out", "p"), ("stop",)]), 4, (9,))
        session.step()
        session.step()
        self.assert_shows(session, 1, None, [9], True)
        session.undo()
        self.assert_shows(session, 1, None, [9], False)
        session.undo()
        self.assert_shows(session, 0, None, [], False)

    def test_nothing_new(self):
        session = Session(LEAST, 4, (9, 2))
        self.assert_error(NothingToUndo, 0, session.undo)
        self.assert_error(NothingToUndo, 0, session.undo)
        self.assert_same((session.present_row, session.outs, session.registers["p"], session.is_over), (0, [], 9, False))
        self.assert_error(NothingToUndo, 0, Session.of_texts(LEAST_TEXT, 4, "9 2").undo)


class LogTest(SessionCase):

    def test_against_decisions(self):
        drawn = random.Random(132)
        for number in range(100):
            inputs = 1 + number % 4
            program = drawn_program(drawn, inputs, 10)
            words = drawn_words(drawn, inputs, 8)
            session = Session(program, 8, words)
            session.step(300)
            found = list(session.log())
            self.assert_same(found, decisions(program, 8, words, len(found)))
            if session.is_over:
                self.assert_same(found, decisions(program, 8, words, 200))
            else:
                self.assert_same(session.step(300), 300)
                more = list(session.log())
                self.assert_same(more, decisions(program, 8, words, len(more)))

    def test_two_walks(self):
        session = Session(Program(2, [("cmp", "p", "q"), ("jif", "e", 2), ("jif", "ne", 3), ("jif", "l", 4)]), 4, (9, 2))
        session.go()
        first, second = session.log(), session.log()
        self.assert_same([next(first), next(first), next(second), next(first), next(second), next(second)],
                         [False, True, False, True, True, True])
        self.assert_same([list(first), list(second), list(session.log())], [[], [], [False, True, True]])

    def test_a_fault_is_no_decision(self):
        session = Session(Program(1, [("out", "p"), ("jif", "e", 0)]), 4, (9,))
        session.go()
        self.assert_same(list(session.log()), [])

    def test_undo_takes_decisions_back(self):
        session = Session(LEAST, 4, (9, 2))
        session.step(2)
        self.assert_same(list(session.log()), [False])
        session.undo()
        self.assert_same(list(session.log()), [])
        session.poke("q", 9)
        session.go()
        self.assert_same(list(session.log()), [True])

    def test_several_turns(self):
        around = Program(2, [("cmp", "p", "q"), ("jif", "e", 4), ("mov", "p", "q"), ("jump", 0), ("out", "p")])
        session = Session(around, 4, (9, 2))
        self.assert_same([session.go(), list(session.log())], ["over", [False, True]])


class OfTextsTest(SessionCase):

    def test_sessions(self):
        drawn = random.Random(133)
        for number in range(60):
            inputs = 1 + number % 4
            program = Program(inputs, drawn_rows(drawn, inputs, 8))
            words = drawn_words(drawn, inputs, 8)
            session = Session.of_texts(show_program(program), 8, show_words(words))
            self.assertIs(type(session), Session)
            self.assertEqual(session, Session(program, 8, words))
            self.assert_same((session.go(), session.outs), (Session(program, 8, words).go(), session.outs))

    def test_of_an_object(self):
        session = Session(LEAST, 4, (9, 2)).of_texts("inputs 1; out p", 2, "3")
        self.assert_same((session.go(), session.outs), ("over", [3]))


class EqualityTest(SessionCase):

    def assert_equal(self, first, second):
        self.assertTrue(first == second and second == first)
        self.assertFalse(first != second or second != first)

    def assert_unequal(self, first, second):
        self.assertTrue(first != second and second != first)
        self.assertFalse(first == second or second == first)

    def test_equal(self):
        self.assert_equal(Session(LEAST, 4, (9, 2)), Session(Program(2, LEAST.rows), 4, (9, 2)))
        session = Session(LEAST, 4, (9, 2))
        self.assert_equal(session, session)

    def test_what_counts(self):
        base = Session(LEAST, 4, (9, 2))
        rows = LEAST.rows
        self.assert_unequal(base, Session(Program(2, rows[:3] + [("out", "q")]), 4, (9, 2)))
        self.assert_unequal(base, Session(Program(2, rows + [("stop",)]), 4, (9, 2)))
        self.assert_unequal(Session(Program(1, []), 4, (0,)), Session(Program(2, []), 4, (0, 0)))
        self.assert_unequal(base, Session(LEAST, 5, (9, 2)))
        self.assert_unequal(base, Session(LEAST, 4, (9, 3)))
        self.assert_unequal(base, Session(LEAST, 4, (2, 9)))
        for name in ("p", "q", "x", "y"):
            other = Session(LEAST, 4, (9, 2))
            other.poke(name, 7)
            self.assert_unequal(base, other)

    def test_row_flag_outputs_and_over(self):
        # Only the rows are different.
        jumps = Program(1, [("jump", 1), ("jump", 2)])
        first, second = Session(jumps, 4, (9,)), Session(jumps, 4, (9,))
        second.step()
        self.assert_unequal(first, second)
        first.step()
        self.assert_equal(first, second)
        # Only the flags are different.
        compares = Program(2, [("cmp", "p", "q"), ("jump", 0)])
        first, second = Session(compares, 4, (9, 2)), Session(compares, 4, (9, 2))
        second.step(2)
        self.assert_unequal(first, second)
        first.step(4)
        self.assert_equal(first, second)
        # Only the outputs are different.
        first, second = Session(TURN, 4, (9, 9)), Session(TURN, 4, (9, 9))
        second.step(3)
        self.assert_unequal(first, second)
        first.step(3)
        self.assert_equal(first, second)
        # Only one of them is over.
        stop = Program(1, [("stop",)])
        first, second = Session(stop, 4, (9,)), Session(stop, 4, (9,))
        second.step()
        self.assert_same([first.present_row, second.present_row], [0, 0])
        self.assert_unequal(first, second)
        first.step()
        self.assert_equal(first, second)

    def test_stops_at_other_rows(self):
        stops = Program(2, [("cmp", "x", "x"), ("jif", "e", 3), ("stop",), ("stop",)])
        first, second = Session(stops, 4, (9, 9)), Session(stops, 4, (9, 9))
        first.go()
        second.step(3)
        self.assert_equal(first, second)
        parting = Program(2, [("cmp", "p", "q"), ("jif", "e", 4), ("cmp", "x", "x"), ("stop",), ("stop",)])
        first, second = Session(parting, 4, (9, 9)), Session(parting, 4, (9, 2))
        first.go()
        second.go()
        second.poke("q", 9)
        self.assert_same([first.present_row, second.present_row], [4, 3])
        self.assert_same([first.registers, first.flag, first.is_over], [second.registers, second.flag, second.is_over])
        self.assert_unequal(first, second)

    def test_what_does_not_count(self):
        """Breaks, logs, first words and what can be taken back."""
        first, second = Session(LEAST, 4, (9, 2)), Session(LEAST, 4, (9, 2))
        first.break_at(1, 2)
        self.assert_equal(first, second)
        second.step(0)
        self.assert_equal(first, second)
        third = Session(LEAST, 4, (1, 2))
        for name in ("p", "x", "y"):
            third.poke(name, 9)
        self.assert_equal(first, third)
        # One jumped, the other one did not, and then all is the same.
        either = Program(2, [("cmp", "p", "q"), ("jif", "e", 2), ("cmp", "x", "x")])
        first, second = Session(either, 4, (9, 9)), Session(either, 4, (9, 2))
        first.go()
        second.go()
        second.poke("q", 9)
        self.assert_same([list(first.log()), list(second.log())], [[True], [False]])
        self.assert_equal(first, second)

    def test_anything_else(self):
        session = Session(LEAST, 4, (9, 2))
        for other in ((LEAST, 4, (9, 2)), [LEAST, 4, (9, 2)], 0, 4, None, "", LEAST, session.registers, shown(session)):
            self.assert_unequal(session, other)


class DrawnTest(SessionCase):

    def test_a_hundred_calls(self):
        drawn = random.Random(134)
        told = []
        for number in range(80):
            inputs = 1 + number % 4
            program = drawn_program(drawn, inputs, drawn.choice((2, 5, 9)))
            width = drawn.choice((1, 2, 4, 300))
            words = drawn_words(drawn, inputs, width)
            session, model = Session(program, width, words), Watched(program, width, words)
            for _ in range(100):
                name, arguments = drawn_call(drawn, program, width)
                if name == "undo" and not model.earlier:
                    self.assert_error(NothingToUndo, 0, session.undo)
                else:
                    answer = getattr(session, name)(*arguments)
                    self.assert_same(answer, getattr(model, name)(*arguments))
                    told.append(answer)
                self.assert_same(shown(session), model.shown())
            while model.earlier:
                session.undo()
                model.undo()
                self.assert_same(shown(session), model.shown())
            self.assertEqual(session, Session(program, width, words))
        for answer in ("over", "break", "endless", 0, 1, 2, 5, 300):
            self.assertGreater(told.count(answer), 20)

    def test_against_runs(self):
        """A session that goes on until it is over."""
        drawn = random.Random(135)
        for number in range(60):
            inputs = 1 + number % 4
            program, words = drawn_program(drawn, inputs, 9), drawn_words(drawn, inputs, 64)
            session = Session(program, 64, words)
            many = 0
            while not session.is_over and many < 400:
                many += session.step(drawn.randint(1, 5))
            wanted = count_steps(program, 64, words)
            if wanted is not None:
                self.assert_same((many, tuple(session.outs)), (wanted, run(program, 64, words)[1]))


class NewListsTest(SessionCase):

    def test_lists_and_dicts(self):
        session = Session(TURN, 4, (9, 2))
        session.break_at(2)
        session.go()
        wanted = shown(session)
        outs, registers = session.outs, session.registers
        outs.append(3)
        outs[0] = 7
        registers["p"] = 0
        registers["z"] = 1
        self.assert_same(shown(session), wanted)
        self.assertIsNot(session.outs, session.outs)
        self.assertIsNot(session.registers, session.registers)
        kept_outs, kept_registers = session.outs, session.registers
        session.step(3)
        self.assert_same([kept_outs, kept_registers], [wanted[3], wanted[2]])

    def test_arguments(self):
        rows = LEAST.rows
        program = Program(2, rows)
        session = Session(program, 4, (9, 2))
        session.poke("p", 1)
        session.go()
        self.assert_same((program.rows, program.inputs), (rows, 2))
        rows.clear()
        program.rows.clear()
        self.assert_same([session.outs, len(program)], [[1], 4])

    def test_sessions_of_one_program(self):
        first, second = Session(LEAST, 4, (9, 2)), Session(LEAST, 4, (9, 2))
        first.break_at(2)
        first.step(2)
        first.poke("x", 0)
        self.assert_same(second.go(), "over")
        self.assert_same(first.registers["x"], 0)
        self.assert_same(second.registers["x"], 9)


class ErrorsTest(SessionCase):

    def test_widths(self):
        for width in (0, -1, -300, -HUGE):
            for words in ((9, 2), (), (-1,), (HUGE,) * 5):
                self.assert_error(InvalidWidth, width, Session, LEAST, width, words)

    def test_words(self):
        for inputs in (1, 2, 3, 4):
            program = Program(inputs, [("jump", 0)])
            for many in range(7):
                if many != inputs:
                    self.assert_error(InvalidWords, None, Session, program, 3, (0,) * many)
                    self.assert_error(InvalidWords, None, Session, program, 3, (-1,) * many)
            for place in range(inputs):
                for word in (-1, 8, HUGE, -HUGE):
                    words = (7,) * place + (word,) + (-1,) * (inputs - place - 1)
                    self.assert_error(InvalidWords, place, Session, program, 3, words)

    def test_counts(self):
        for session in (Session(LEAST, 4, (9, 2)), Session(Program(1, []), 4, (9,))):
            before = shown(session)
            for count in (-1, -2, -HUGE):
                self.assert_error(InvalidNumber, count, session.step, count)
                self.assert_same(shown(session), before)

    def test_breaks(self):
        session = Session(LEAST, 4, (9, 2))
        session.break_at(2)
        for rows, wrong in (((4,), 4), ((-1,), -1), ((0, 1, 4), 4), ((0, -1, 4), -1), ((5, -1), 5), ((HUGE, 4), HUGE),
                            ((3, -HUGE, 3), -HUGE)):
            self.assert_error(InvalidRow, wrong, session.break_at, *rows)
        self.assert_same([session.go(), session.present_row], ["break", 2])
        for row in (0, -1, 1):
            self.assert_error(InvalidRow, row, Session(Program(1, []), 4, (9,)).break_at, row)
        self.assert_same(Session(Program(1, []), 4, (9,)).break_at(), None)

    def test_pokes(self):
        for inputs, names in ((1, "qrs"), (2, "rs"), (3, "s"), (4, "tz")):
            session = Session(Program(inputs, []), 4, (9,) * inputs)
            before = shown(session)
            for name in list(names) + ["", "P", "pq", "x ", "flag", "0"]:
                for word in (0, 15, 16, -1, HUGE):
                    self.assert_error(InvalidRegister, name, session.poke, name, word)
            for name in names_for(inputs):
                for word in (-1, 16, 17, HUGE, -HUGE):
                    self.assert_error(InvalidWords, None, session.poke, name, word)
            self.assert_same(shown(session), before)
            self.assert_error(NothingToUndo, 0, session.undo)

    def test_of_texts(self):
        for text in ("", "inputs 5", "inputs 2; out r", LEAST_TEXT + " "):
            for width in (4, 0, -HUGE):
                for words_text in ("9 2", "", "01", "9"):
                    self.assert_error(Unreadable, text, Session.of_texts, text, width, words_text)
        for width in (0, -1, -HUGE):
            for words_text in ("9 2", "", "x", "9", "none"):
                self.assert_error(InvalidWidth, width, Session.of_texts, LEAST_TEXT, width, words_text)
        for words_text in ("", " ", "09", "-1 2", "9 x", "9, 2", "9" * 401):
            self.assert_error(Unreadable, words_text, Session.of_texts, LEAST_TEXT, 4, words_text)
        for words_text in ("none", "9", "9 2 1", "99", "99 99 99"):
            self.assert_error(InvalidWords, None, Session.of_texts, LEAST_TEXT, 4, words_text)
        for words_text, index in (("16 2", 0), ("9 16", 1), ("16 16", 0), ("0 " + "9" * 400, 1)):
            self.assert_error(InvalidWords, index, Session.of_texts, LEAST_TEXT, 4, words_text)


class InterfaceTest(SessionCase):

    def test_defined_in_this_file(self):
        self.assertEqual(Session.__module__, "branchorders.sessions")
        self.assertIs(sessions_file.Session, Session)
        names = ("present_row", "flag", "registers", "outs", "is_over", "step", "go", "break_at", "poke", "undo", "log",
                 "of_texts", "__eq__")
        for name in names:
            self.assertIn(name, vars(Session))
        for name in names[:5]:
            self.assertIsInstance(vars(Session)[name], property)
        self.assertIsInstance(vars(Session)["of_texts"], classmethod)

    def test_by_name(self):
        session = Session(words=(9, 2), width=4, program=LEAST)
        self.assert_same(session.step(count=2), 2)
        self.assert_same(session.poke(word=5, name="q"), None)
        self.assert_same([session.go(), session.outs], ["over", [5]])
        session = Session.of_texts(words_text="9 2", width=4, program_text=LEAST_TEXT)
        self.assertEqual(session, Session(LEAST, 4, (9, 2)))

    def test_errors_by_name(self):
        self.assert_error(InvalidWidth, 0, Session, words=(), width=0, program=LEAST)
        session = Session(LEAST, 4, (9, 2))
        self.assert_error(InvalidNumber, -1, session.step, count=-1)
        self.assert_error(InvalidRegister, "r", session.poke, word=-1, name="r")
        self.assert_error(Unreadable, "", Session.of_texts, words_text="", width=0, program_text="")


if __name__ == "__main__":
    unittest.main()
