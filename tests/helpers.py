"""What several test files use."""

import unittest

from branchorders.errors import BranchError

HUGE = 10 ** 400

OUTCOMES = ("E", "LB", "GA", "GB", "LA")

# Written out once more from the document, so that a wrong table of the package shows.
MEANINGS = (
    ("e", ("E",)),
    ("ne", ("LB", "GA", "GB", "LA")),
    ("l", ("LB", "LA")),
    ("le", ("E", "LB", "LA")),
    ("g", ("GA", "GB")),
    ("ge", ("E", "GA", "GB")),
    ("b", ("LB", "GB")),
    ("be", ("E", "LB", "GB")),
    ("a", ("GA", "LA")),
    ("ae", ("E", "GA", "LA")),
    ("same", ("E", "LB", "GA")),
    ("mixed", ("GB", "LA")),
)


class BranchTestCase(unittest.TestCase):

    def assert_same(self, found, wanted):
        """The values are equal and, items included, of equal kinds: repr tells True from 1 and (1,) from [1]."""
        self.assertEqual(repr(found), repr(wanted))

    def assert_error(self, kind, value, function, *arguments, **named):
        with self.assertRaises(BranchError) as caught:
            function(*arguments, **named)
        self.assertIs(type(caught.exception), kind)
        self.assert_same(caught.exception.value, value)


def all_words(width):
    return range(2 ** width)


def edge_words(width):
    """0, the greatest word, the least negative word, and their neighbours."""
    half = 2 ** (width - 1)
    return sorted({0, 1, 2, half - 2, half - 1, half, half + 1, 2 * half - 3, 2 * half - 2, 2 * half - 1})


def bits_of(width, word):
    """The bits of a word, the sign bit first, each as a character."""
    return format(word, f"0{width}b")


def word_of(bits):
    return int(bits, 2)


def other_bits(bits):
    return "".join("1" if bit == "0" else "0" for bit in bits)


def signed_of(width, word):
    """The signed value by bits: the first one counts negative."""
    bits = bits_of(width, word)
    return sum(2 ** place for place, bit in enumerate(reversed(bits[1:])) if bit == "1") - int(bits[0]) * 2 ** (width - 1)


def outcome_of(width, first, second):
    """The outcome by the words of the document."""
    if first == second:
        return "E"
    by_sign = "L" if signed_of(width, first) < signed_of(width, second) else "G"
    as_integers = "B" if first < second else "A"
    return by_sign + as_integers


def some_words():
    """Widths with the words to be tried: all of the widths 1 to 3, those at the edges of some greater widths."""
    small = [(width, list(all_words(width))) for width in (1, 2, 3)]
    return small + [(width, edge_words(width)) for width in (4, 8, 64, 255, 300)]
