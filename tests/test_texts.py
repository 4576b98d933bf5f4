"""Points 4 and 7, and the interface of branchorders/texts.py and branchorders/readings.py."""

import random
import unittest

from branchorders import readings as readings_file
from branchorders import texts as texts_file
from branchorders.errors import Unreadable
from branchorders.programs import Program
from branchorders.readings import read_program, read_words
from branchorders.texts import show_program, show_words
from helpers import HUGE, BranchTestCase
from models import HOLDS, drawn_rows, names_for

LEAST = Program(2, [("cmp", "p", "q"), ("jif", "be", 3), ("mov", "p", "q"), ("out", "p")])
LEAST_TEXT = "inputs 2; cmp p q; jif be 3; mov p q; out p"

EACH_ROW = Program(4, [
    ("cmp", "p", "s"), ("mov", "x", "q"), ("swap", "r", "y"), ("cmov", "mixed", "s", "p"), ("jump", 8), ("jif", "ae", 0),
    ("out", "y"), ("stop",),
])
EACH_TEXT = "inputs 4; cmp p s; mov x q; swap r y; cmov mixed s p; jump 8; jif ae 0; out y; stop"

# The characters of texts, from the space to the tilde, and some beyond.
CHARACTERS = "".join(map(chr, range(32, 127)))


def words_by_text(text):
    """The words of a text by the words of the document, or None."""
    if text == "none":
        return ()
    parts = text.split(" ")
    for part in parts:
        if not part or set(part) - set("0123456789") or part.startswith("0") and part != "0" or len(part) > 400:
            return None
    return tuple(map(int, parts))


class ProgramCase(BranchTestCase):

    def assert_both_ways(self, program, text):
        self.assert_same(show_program(program), text)
        found = read_program(text)
        self.assertIs(type(found), Program)
        self.assert_same((found.inputs, found.rows), (program.inputs, program.rows))
        self.assertEqual(found, program)
        self.assertIsNot(read_program(text), found)

    def assert_unreadable(self, text):
        self.assert_error(Unreadable, text, read_program, text)


class ProgramsTest(ProgramCase):

    def test_both_ways(self):
        self.assert_both_ways(LEAST, LEAST_TEXT)
        self.assert_both_ways(EACH_ROW, EACH_TEXT)
        self.assert_both_ways(Program(1, [("out", "p"), ("jump", 0)]), "inputs 1; out p; jump 0")
        for inputs in (1, 2, 3, 4):
            self.assert_both_ways(Program(inputs, []), f"inputs {inputs}")
            self.assert_both_ways(Program(inputs, [("stop",)]), f"inputs {inputs}; stop")
            self.assert_both_ways(Program(inputs, [("jump", 1)]), f"inputs {inputs}; jump 1")

    def test_drawn(self):
        drawn = random.Random(120)
        for number in range(200):
            inputs = 1 + number % 4
            program = Program(inputs, drawn_rows(drawn, inputs, drawn.choice((1, 5, 12, 40))))
            parts = [f"inputs {inputs}"] + [" ".join(map(str, row)) for row in program.rows]
            self.assert_both_ways(program, "; ".join(parts))

    def test_all_items(self):
        for inputs in (1, 2, 3, 4):
            for name in names_for(inputs):
                program = Program(inputs, [("mov", "p", name), ("out", name)])
                self.assert_both_ways(program, f"inputs {inputs}; mov p {name}; out {name}")
            for condition in HOLDS:
                self.assert_both_ways(Program(inputs, [("jif", condition, 0)]), f"inputs {inputs}; jif {condition} 0")

    def test_targets(self):
        for many in (1, 9, 10, 11, 40, 101, 150):
            rows = [("stop",)] * (many - 1)
            for target in {0, 1, many // 2, many - 1, many}:
                text = "; ".join(["inputs 1", f"jump {target}"] + ["stop"] * (many - 1))
                self.assert_both_ways(Program(1, [("jump", target)] + rows), text)

    def test_a_new_program(self):
        first, second = read_program(LEAST_TEXT), read_program(LEAST_TEXT)
        self.assertIsNot(first, second)
        first.rows.clear()
        self.assert_same(show_program(first), LEAST_TEXT)
        self.assert_same(LEAST.rows, second.rows)


class UnreadableProgramsTest(ProgramCase):

    def test_changed_texts(self):
        """A character left out, put in or exchanged makes the text of another program, or of none."""
        drawn = random.Random(121)
        readable = 0
        for text in (LEAST_TEXT, EACH_TEXT, "inputs 3", "inputs 1; jump 2; jump 0", "inputs 2; jif be 1; jif le 2"):
            changed = {text[:place] + text[place + 1:] for place in range(len(text))}
            for place in range(len(text) + 1):
                for character in drawn.sample(CHARACTERS, 12) + list(" ;0159pxesabt-+_\t\n"):
                    changed.add(text[:place] + character + text[place:])
                    changed.add(text[:place] + character + text[place + 1:])
            for other in changed - {text}:
                try:
                    found = read_program(other)
                except Unreadable as error:
                    self.assert_same(error.value, other)
                else:
                    self.assert_same(show_program(found), other)
                    readable += 1
        self.assertGreater(readable, 20)

    def test_no_program(self):
        for text in (
            "", " ", ";", "; ", "none", "inputs", "inputs ", "inputs p", "input 2", "Inputs 2", "inputs 2 2", "2", "stop",
            "out p", "out p; inputs 1", "inputs 1; inputs 1", "inputs 0", "inputs 5", "inputs 10", "inputs 0; out p",
            "inputs 2;", "inputs 2; ", "; inputs 2", "inputs 2; ; stop", "inputs 2; stop;", "inputs 2; stop; ",
            "inputs 2;stop", "inputs 2 ; stop", "inputs 2; stop ; stop", "inputs 2;  stop", "inputs 2;stop; stop",
            " inputs 2", "inputs 2 ", "inputs  2", "inputs 2, stop", "inputs 2\nstop", "inputs 2; stop\n", "inputs\t2",
        ):
            self.assert_unreadable(text)

    def test_no_rows(self):
        for row in (
            "cmp", "cmp p", "cmp p q p", "mov p", "swap p", "cmov p q", "cmov e p", "cmov p e q", "cmov e p q q", "jump",
            "jump 0 0", "jif e", "jif 0 e", "jif e 0 0", "jif 0", "out", "out p q", "stop p", "stop 0", "nop", "cmpp p q",
            "CMP p q", "Stop", "out P", "0", "0 p", "p", "out out", "out stop", "jump p", "jump e", "out 0", "cmp 0 p",
            "cmp p 0", "jif p 0", "jif eq 0", "jif E 0", "jif GB 0", "cmov x p q", "cmp  p q", "cmp p  q", " cmp p q",
            "cmp p q ", "cmp p,q", "out pq", "jif  e 0", "jump  0", "jump 0 ", "stop ",
        ):
            self.assert_unreadable(f"inputs 2; {row}")
            self.assert_unreadable(f"inputs 2; out p; {row}; out q")

    def test_registers(self):
        for inputs, names in ((1, "qrs"), (2, "rs"), (3, "s"), (4, "tzi")):
            for name in names:
                for row in (f"out {name}", f"cmp p {name}", f"mov {name} p", f"swap {name} {name}", f"cmov e x {name}"):
                    self.assert_unreadable(f"inputs {inputs}; {row}")

    def test_numbers(self):
        for target in ("3", "4", "10", "-1", "-0", "+0", "+1", "00", "01", "02", "1.0", "1e0", "0x1", "1_0", "0_1", " 1",
                       "\u0661", "\u00b2", "\uff11", "one", "", "9" * 400, "9" * 401, "9" * 1900, "0" * 400, str(HUGE)):
            self.assert_unreadable(f"inputs 1; jump {target}; stop")
            self.assert_unreadable(f"inputs 1; cmp p x; jif e {target}")
        for inputs in ("01", "+1", "-1", "1.", "00", "0x2", "\u0661", "9" * 400, "9" * 5000):
            self.assert_unreadable(f"inputs {inputs}; stop")

    def test_long_texts(self):
        text = "; ".join(["inputs 1"] + ["out p"] * 284)
        self.assertLessEqual(len(text), 2000)
        self.assert_same(len(read_program(text)), 284)
        self.assert_unreadable(text + ";")
        for character in CHARACTERS:
            self.assert_unreadable(character * 2000)


class WordsTest(BranchTestCase):

    def test_both_ways(self):
        for words, text in (
            ((), "none"), ((0,), "0"), ((9, 2), "9 2"), ((10, 0, 100), "10 0 100"), ((1, 1, 1, 1), "1 1 1 1"),
            ((2 ** 300 - 1, 2 ** 299), f"{2 ** 300 - 1} {2 ** 299}"), ((HUGE - 1,), "9" * 400),
            ((0,) * 50, "0" + " 0" * 49),
        ):
            self.assert_same(show_words(words), text)
            self.assert_same(read_words(text), words)

    def test_drawn(self):
        drawn = random.Random(122)
        for _ in range(300):
            words = tuple(drawn.randrange(10 ** drawn.choice((1, 2, 30, 400))) for _ in range(drawn.randint(1, 4)))
            text = show_words(words)
            self.assert_same(text, " ".join(map(str, words)))
            self.assert_same(read_words(text), words)

    def test_greatest_numbers(self):
        for digits in ("1" + "0" * 399, "9" * 400):
            self.assert_same(read_words(f"5 {digits}"), (5, int(digits)))
        for digits in ("1" + "0" * 400, "9" * 401, "9" * 1999, "9" * 5000, str(HUGE)):
            self.assert_error(Unreadable, digits, read_words, digits)
            self.assert_error(Unreadable, f"5 {digits}", read_words, f"5 {digits}")
        self.assert_same(show_words((HUGE,)), "1" + "0" * 400)

    def test_unreadable(self):
        for text in (
            "", " ", "  ", "None", "NONE", "none ", " none", "none 1", "1 none", "none none", "non", "no", "-1", "+1", "-0",
            "01", "00", "0 00", "1  2", " 1", "1 ", "1 2 ", "1,2", "1;2", "1; 2", "(1, 2)", "1.0", "1e3", "0x1", "1_000",
            "p", "1 p", "one", "\t", "1\t2", "1\n", "\n1", "1\n2", "\u0661", "\u00b2", "1 \u00bd", "\uff11",
            "1\u00a02", "~", "!",
        ):
            self.assert_error(Unreadable, text, read_words, text)

    def test_changed_texts(self):
        drawn = random.Random(123)
        for text in ("none", "9 2", "10 0 100", "0", "907 " + "8" * 30):
            changed = {text[:place] + text[place + 1:] for place in range(len(text))}
            for place in range(len(text) + 1):
                for character in drawn.sample(CHARACTERS, 15) + list(" 01n-+_\t\n"):
                    changed.add(text[:place] + character + text[place:])
                    changed.add(text[:place] + character + text[place + 1:])
            for other in changed:
                wanted = words_by_text(other)
                if wanted is None:
                    self.assert_error(Unreadable, other, read_words, other)
                else:
                    self.assert_same(read_words(other), wanted)
                    self.assert_same(show_words(wanted), other)


class InterfaceTest(BranchTestCase):

    def test_defined_in_these_files(self):
        for function, file in ((show_program, texts_file), (show_words, texts_file), (read_program, readings_file),
                               (read_words, readings_file)):
            self.assertEqual(function.__module__, file.__name__)
            self.assertIs(getattr(file, function.__name__), function)

    def test_by_name(self):
        self.assert_same(show_program(program=LEAST), LEAST_TEXT)
        self.assert_same(show_words(words=(9, 2)), "9 2")
        self.assert_same(read_program(text=LEAST_TEXT).rows, LEAST.rows)
        self.assert_same(read_words(text="9 2"), (9, 2))
        self.assert_error(Unreadable, "x", read_program, text="x")
        self.assert_error(Unreadable, "x", read_words, text="x")


if __name__ == "__main__":
    unittest.main()
