"""Points 4, 5 and 11, and the interface of branchorders/words.py."""

import unittest

from branchorders import words as words_file
from branchorders.errors import InvalidWidth, InvalidWords
from branchorders.words import extended, flipped, inverted, outcome, signed
from helpers import HUGE, BranchTestCase, bits_of, edge_words, other_bits, outcome_of, signed_of, some_words, word_of

WRONG_WIDTHS = (0, -1, -2, -300, -HUGE)


def wrong_words(width):
    return (-1, -2, 2 ** width, 2 ** width + 1, 2 ** (width + 1), HUGE, -HUGE)


class SignedTest(BranchTestCase):

    def test_by_bits(self):
        for width, words in some_words():
            for word in words:
                self.assert_same(signed(width, word), signed_of(width, word))

    def test_written_out(self):
        self.assertEqual([signed(1, word) for word in range(2)], [0, -1])
        self.assertEqual([signed(2, word) for word in range(4)], [0, 1, -2, -1])
        self.assertEqual([signed(3, word) for word in range(8)], [0, 1, 2, 3, -4, -3, -2, -1])
        self.assertEqual(signed(300, 2 ** 299), -2 ** 299)
        self.assertEqual(signed(300, 2 ** 299 - 1), 2 ** 299 - 1)
        self.assertEqual(signed(300, 2 ** 300 - 1), -1)

    def test_errors(self):
        for width in WRONG_WIDTHS:
            for word in (0, -1, 5):
                self.assert_error(InvalidWidth, width, signed, width, word)
        for width in (1, 2, 3, 4, 8, 64, 255, 300):
            for word in wrong_words(width):
                self.assert_error(InvalidWords, 0, signed, width, word)


class OutcomeTest(BranchTestCase):

    def test_by_both_orders(self):
        for width, words in some_words():
            for first in words:
                for second in words:
                    self.assert_same(outcome(width, first, second), outcome_of(width, first, second))

    def test_width_1(self):
        found = [outcome(1, first, second) for first in range(2) for second in range(2)]
        self.assertEqual(found, ["E", "GB", "LA", "E"])

    def test_width_2(self):
        found = [[outcome(2, first, second) for second in range(4)] for first in range(4)]
        self.assertEqual(found, [
            ["E", "LB", "GB", "GB"],
            ["GA", "E", "GB", "GB"],
            ["LA", "LA", "E", "LB"],
            ["LA", "LA", "GA", "E"],
        ])

    def test_words_next_to_each_other(self):
        for width in (4, 8, 64, 255, 300):
            half = 2 ** (width - 1)
            for word in edge_words(width)[:-1]:
                crosses = word == half - 1
                self.assertEqual(outcome(width, word, word + 1), "GB" if crosses else "LB")
                self.assertEqual(outcome(width, word + 1, word), "LA" if crosses else "GA")

    def test_errors(self):
        for width in WRONG_WIDTHS:
            for pair in ((0, 0), (-1, 0), (0, -1), (5, 5)):
                self.assert_error(InvalidWidth, width, outcome, width, *pair)
        for width in (1, 2, 3, 4, 8, 64, 255, 300):
            for word in wrong_words(width):
                for good in (0, 2 ** width - 1):
                    self.assert_error(InvalidWords, 0, outcome, width, word, good)
                    self.assert_error(InvalidWords, 1, outcome, width, good, word)
                for other in wrong_words(width):
                    self.assert_error(InvalidWords, 0, outcome, width, word, other)


class ChangedTest(BranchTestCase):

    def test_flipped_by_bits(self):
        for width, words in some_words():
            wanted = tuple(word_of(other_bits(bits_of(width, word)[0]) + bits_of(width, word)[1:]) for word in words)
            self.assert_same(flipped(width, tuple(words)), wanted)

    def test_inverted_by_bits(self):
        for width, words in some_words():
            wanted = tuple(word_of(other_bits(bits_of(width, word))) for word in words)
            self.assert_same(inverted(width, tuple(words)), wanted)

    def test_width_1(self):
        self.assert_same(flipped(1, (0, 1, 1)), (1, 0, 0))
        self.assert_same(inverted(1, (0, 1, 1)), (1, 0, 0))

    def test_all_pairs(self):
        for width, words in some_words():
            half, last = 2 ** (width - 1), 2 ** width - 1
            for first in words:
                for second in words:
                    pair = (first, second)
                    self.assert_same(flipped(width, pair), ((first + half) % 2 ** width, (second + half) % 2 ** width))
                    self.assert_same(inverted(width, pair), (last - first, last - second))

    def test_twice(self):
        for width, words in some_words():
            for change in (flipped, inverted):
                self.assert_same(change(width, change(width, tuple(words))), tuple(words))

    def test_no_words(self):
        for width in (1, 2, 64, 300):
            self.assert_same(flipped(width, ()), ())
            self.assert_same(inverted(width, ()), ())

    def test_sign_bits_exchange_the_orders(self):
        """Point 11: what was the unsigned order becomes the signed one, and the other way round."""
        for width, words in some_words():
            for first in words:
                for second in words:
                    new_first, new_second = flipped(width, (first, second))
                    self.assertEqual(new_first < new_second, signed(width, first) < signed(width, second))
                    self.assertEqual(signed(width, new_first) < signed(width, new_second), first < second)
                    wanted = {"GB": "LA", "LA": "GB"}
                    before = outcome(width, first, second)
                    self.assertEqual(outcome(width, new_first, new_second), wanted.get(before, before))

    def test_all_bits_reverse_the_orders(self):
        """Point 11: what was less becomes greater, in both orders."""
        for width, words in some_words():
            for first in words:
                for second in words:
                    new_first, new_second = inverted(width, (first, second))
                    self.assertEqual(new_first < new_second, first > second)
                    self.assertEqual(signed(width, new_first) < signed(width, new_second),
                                     signed(width, first) > signed(width, second))
                    self.assertEqual(outcome(width, new_first, new_second), outcome(width, second, first))

    def test_errors(self):
        for change in (flipped, inverted):
            for width in WRONG_WIDTHS:
                for words in ((), (0,), (-1,), (5, -5)):
                    self.assert_error(InvalidWidth, width, change, width, words)
            check_places(self, change)


class ExtendedTest(BranchTestCase):

    def test_by_bits(self):
        for width, words in some_words():
            for wider in (width, width + 1, width + 2, 2 * width, 300):
                added = wider - width
                by_sign = [bits_of(width, word)[0] * added + bits_of(width, word) for word in words]
                self.assert_same(extended(width, tuple(words), wider, True), tuple(map(word_of, by_sign)))
                self.assert_same(extended(width, tuple(words), wider, False), tuple(words))

    def test_signed_values_stay(self):
        for width, words in some_words():
            for wider in (width, width + 1, 300):
                found = extended(width, tuple(words), wider, True)
                for word, wide_word in zip(words, found):
                    self.assertEqual(signed(wider, wide_word), signed(width, word))

    def test_width_1(self):
        self.assert_same(extended(1, (0, 1), 4, True), (0, 15))
        self.assert_same(extended(1, (0, 1), 4, False), (0, 1))

    def test_same_width(self):
        for width, words in some_words():
            for keep_sign in (True, False):
                self.assert_same(extended(width, tuple(words), width, keep_sign), tuple(words))

    def test_no_words(self):
        for keep_sign in (True, False):
            self.assert_same(extended(3, (), 3, keep_sign), ())
            self.assert_same(extended(3, (), 300, keep_sign), ())

    def test_errors(self):
        for keep_sign in (True, False):
            for width in WRONG_WIDTHS:
                for words in ((), (0,), (-1,), (5, -5)):
                    for wider in (8, 1, -7, width - 1):
                        self.assert_error(InvalidWidth, width, extended, width, words, wider, keep_sign)
            for wider in (10, 300, 1, 0, -5):
                check_places(self, lambda width, words: extended(width, words, wider, keep_sign))
            for width in (1, 2, 3, 4, 8, 64, 255, 300):
                for wider in (width - 1, 0, -1, -HUGE):
                    for words in ((), (0,), (1, 0)):
                        self.assert_error(InvalidWidth, wider, extended, width, words, wider, keep_sign)


def check_places(case, change):
    """The first wrong one of the words counts, at each place."""
    for width in (1, 2, 3, 4, 8, 64, 255, 300):
        good = (0, 2 ** width - 1, 1, 2 ** (width - 1))
        for word in wrong_words(width):
            for place in range(len(good)):
                words = good[:place] + (word,) + good[place + 1:]
                case.assert_error(InvalidWords, place, change, width, words)
                several = good[:place] + (word, word + 2, -9)
                case.assert_error(InvalidWords, place, change, width, several)


class InterfaceTest(BranchTestCase):

    def test_defined_in_this_file(self):
        for function in (signed, outcome, flipped, inverted, extended):
            self.assertEqual(function.__module__, "branchorders.words")
            self.assertIs(getattr(words_file, function.__name__), function)

    def test_by_name(self):
        self.assert_same(signed(word=9, width=4), -7)
        self.assert_same(outcome(second=8, first=7, width=4), "GB")
        self.assert_same(outcome(second=7, first=8, width=4), "LA")
        self.assert_same(flipped(words=(7, 8), width=4), (15, 0))
        self.assert_same(inverted(words=(7, 9), width=4), (8, 6))
        self.assert_same(extended(keep_sign=True, wider=6, words=(7, 8), width=4), (7, 56))
        self.assert_same(extended(keep_sign=False, wider=6, words=(7, 8), width=4), (7, 8))

    def test_errors_by_name(self):
        self.assert_error(InvalidWidth, 0, signed, word=0, width=0)
        self.assert_error(InvalidWords, 1, outcome, second=4, first=3, width=2)
        self.assert_error(InvalidWords, 0, flipped, words=(8,), width=3)
        self.assert_error(InvalidWords, 1, inverted, words=(7, 8), width=3)
        self.assert_error(InvalidWidth, 2, extended, keep_sign=True, wider=2, words=(7,), width=3)

    def test_no_default_values(self):
        for function, arguments in ((signed, (4,)), (outcome, (4, 1)), (flipped, (4,)), (inverted, (4,)),
                                    (extended, (4, (1,), 5))):
            with self.assertRaises(TypeError):
                function(*arguments)


if __name__ == "__main__":
    unittest.main()
