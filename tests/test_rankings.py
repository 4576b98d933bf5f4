"""Points 6 and 11, and the interface of branchorders/rankings.py."""

import itertools
import random
import unittest
from math import factorial

from branchorders import rankings as rankings_file
from branchorders.errors import InvalidNumber, InvalidRanking, InvalidWidth, InvalidWords
from branchorders.rankings import (
    count_rankings, count_words, least_width, least_words, nth_ranking, outcome_in, ranking_number, ranking_of,
)
from branchorders.words import outcome
from helpers import HUGE, BranchTestCase, edge_words, outcome_of
from models import ranking_by_words, rankings_by_definition, tuples_of_words

FUNCTIONS = (ranking_of, outcome_in, least_width, least_words, count_words, count_rankings, nth_ranking, ranking_number)

WRONG_WIDTHS = (0, -1, -300, -HUGE)

WRONG_RANKINGS = (
    # A rank is left out.
    ((1,), 0), ((1, 1), 1), ((0, 2), 0), ((2, 0), 1), ((0, 1, 3), 2), ((0, 2, 2), 2), ((4, 3, 2, 1, 1), 3),
    # A rank is negative or too great.
    ((-1,), 0), ((-1, 0), 0), ((0, -1), 1), ((0, 1, -HUGE), 1), ((2, 1, 0, 5), 0), ((0, HUGE), 1),
    # The cut is out of its range.
    ((0,), -1), ((0,), 2), ((0, 0), 2), ((0, 1), -1), ((0, 1), 3), ((0, 1, 0), 3), ((0, 1, 2, 3, 4), 6),
    ((0,), HUGE), ((0, 1), -HUGE),
    # Several of these at once.
    ((1,), 5), ((-1, 3), -1),
)

# Tuples that do not even look like a ranking.
OTHER_TUPLES = ((), ((0,),), ((0,), 0, 0), (0, 0), (0, (0,)), ((0, 1), (1,)))


class RankingOfTest(BranchTestCase):

    def test_all_small_words(self):
        for width in (1, 2, 3):
            for items in (1, 2, 3):
                for words in tuples_of_words(width, items):
                    self.assert_same(ranking_of(width, words), ranking_by_words(width, words))

    def test_four_and_five_words(self):
        for items in (4, 5):
            for width in (1, 2):
                for words in tuples_of_words(width, items):
                    self.assert_same(ranking_of(width, words), ranking_by_words(width, words))
            drawn = random.Random(items)
            for width in (3, 8, 64, 300):
                for _ in range(100):
                    words = tuple(drawn.choices([drawn.randrange(2 ** width) for _ in range(5)], k=items))
                    self.assert_same(ranking_of(width, words), ranking_by_words(width, words))

    def test_edges_of_great_widths(self):
        for width in (8, 64, 300):
            for words in itertools.product(edge_words(width), repeat=2):
                self.assert_same(ranking_of(width, words), ranking_by_words(width, words))

    def test_written_out(self):
        self.assert_same(ranking_of(1, (0,)), ((0,), 1))
        self.assert_same(ranking_of(1, (1,)), ((0,), 0))
        self.assert_same(ranking_of(1, (1, 0)), ((1, 0), 1))
        self.assert_same(ranking_of(4, (7, 8)), ((0, 1), 1))
        self.assert_same(ranking_of(4, (8, 15, 8)), ((0, 1, 0), 0))
        self.assert_same(ranking_of(4, (5, 7, 0)), ((1, 2, 0), 3))
        self.assert_same(ranking_of(4, (5, 5, 5, 5)), ((0, 0, 0, 0), 1))
        self.assert_same(ranking_of(300, (2 ** 299, 2 ** 299 - 1, 0, 2 ** 300 - 1, 0)), ((2, 1, 0, 3, 0), 2))

    def test_errors(self):
        for width in WRONG_WIDTHS:
            for words in ((0,), (-1,), (5, -5)):
                self.assert_error(InvalidWidth, width, ranking_of, width, words)
        for width in (1, 2, 3, 64, 300):
            good = (0, 2 ** width - 1, 1, 2 ** (width - 1), 0)
            for word in (-1, 2 ** width, 2 ** width + 1, HUGE, -HUGE):
                for place in range(5):
                    words = good[:place] + (word,) + good[place + 1:]
                    self.assert_error(InvalidWords, place, ranking_of, width, words)
                    self.assert_error(InvalidWords, place, ranking_of, width, good[:place] + (word, -7, -8)[:5 - place])


class OutcomeInTest(BranchTestCase):

    def check(self, width, words):
        ranking = ranking_by_words(width, words)
        for first in range(len(words)):
            for second in range(len(words)):
                found = outcome_in(ranking, first, second)
                self.assert_same(found, outcome(width, words[first], words[second]))
                self.assert_same(found, outcome_of(width, words[first], words[second]))

    def test_all_pairs_of_small_words(self):
        for width in (1, 2, 3):
            for items in (1, 2, 3):
                for words in tuples_of_words(width, items):
                    self.check(width, words)

    def test_five_items(self):
        drawn = random.Random(5)
        for width in (4, 8, 300):
            for _ in range(200):
                self.check(width, tuple(drawn.choices([drawn.randrange(2 ** width) for _ in range(5)], k=5)))

    def test_an_item_and_itself(self):
        for ranking in rankings_by_definition(3):
            for item in range(3):
                self.assert_same(outcome_in(ranking, item, item), "E")

    def test_errors(self):
        for items in range(1, 6):
            ranking = (tuple(range(items)), 1)
            for wrong in (-1, -items, items, items + 1, HUGE, -HUGE):
                for good in range(items):
                    self.assert_error(InvalidNumber, wrong, outcome_in, ranking, wrong, good)
                    self.assert_error(InvalidNumber, wrong, outcome_in, ranking, good, wrong)
                self.assert_error(InvalidNumber, wrong, outcome_in, ranking, wrong, 77)
                self.assert_error(InvalidNumber, 77, outcome_in, ranking, 77, wrong)


def chosen(many, of):
    """In how many ways so many different ones can be chosen of others."""
    ways = 1
    for taken in range(many):
        ways *= of - taken
    return ways // factorial(many)


class WidthsTest(BranchTestCase):
    """Point 11, second sentence: the widths at which a ranking is that of some words, which ones, how many."""

    def test_against_all_words(self):
        for items, widths in ((1, (1, 2, 3)), (2, (1, 2, 3)), (3, (1, 2, 3)), (4, (1, 2, 3)), (5, (1, 2))):
            found = {}
            for width in widths:
                for words in tuples_of_words(width, items):
                    found.setdefault((ranking_by_words(width, words), width), []).append(words)
            for ranking in rankings_by_definition(items):
                fitting = [width for width in widths if (ranking, width) in found]
                if fitting:
                    self.assert_same(least_width(ranking), fitting[0])
                else:
                    self.assertGreater(least_width(ranking), widths[-1])
                for width in widths:
                    words = found.get((ranking, width), [])
                    self.assert_same(count_words(ranking, width), len(words))
                    self.assert_same(least_words(ranking, width), words[0] if words else None)

    def test_all_rankings_by_choices(self):
        for items in range(1, 6):
            for ranks, cut in rankings_by_definition(items):
                many = max(ranks) + 1
                wanted = next(width for width in range(1, 9) if 2 ** (width - 1) >= max(cut, many - cut))
                self.assert_same(least_width((ranks, cut)), wanted)
                for width in (1, 2, 3, 4, 64, 300, 400):
                    half = 2 ** (width - 1)
                    count = chosen(cut, half) * chosen(many - cut, half) if width >= wanted else 0
                    self.assert_same(count_words((ranks, cut), width), count)
                    by_rank = list(range(cut)) + [half + place for place in range(many - cut)]
                    words = tuple(by_rank[rank] for rank in ranks) if width >= wanted else None
                    self.assert_same(least_words((ranks, cut), width), words)

    def test_least_words_have_the_ranking(self):
        for items in range(1, 5):
            for ranking in rankings_by_definition(items):
                for width in (least_width(ranking), least_width(ranking) + 1, 300):
                    self.assert_same(ranking_of(width, least_words(ranking, width)), ranking)

    def test_too_little_width(self):
        self.assert_same(least_width(((0, 1), 2)), 2)
        self.assert_same(least_words(((0, 1), 2), 1), None)
        self.assert_same(count_words(((0, 1), 2), 1), 0)
        self.assert_same(least_words(((0, 1), 1), 1), (0, 1))
        self.assert_same(count_words(((0, 1), 1), 1), 1)
        self.assert_same(least_width(((0, 1, 2, 3, 4), 0)), 4)
        self.assert_same(least_words(((0, 1, 2, 3, 4), 0), 3), None)
        self.assert_same(least_words(((0, 1, 2, 3, 4), 0), 4), (8, 9, 10, 11, 12))
        self.assert_same(least_width(((0, 1, 2, 3, 4), 4)), 3)

    def test_wrong_widths(self):
        for function in (least_words, count_words):
            for width in WRONG_WIDTHS:
                self.assert_error(InvalidWidth, width, function, ((0, 1), 2), width)


class NumbersTest(BranchTestCase):

    def test_counts(self):
        self.assert_same([count_rankings(items) for items in range(1, 6)], [2, 8, 44, 308, 2612])

    def test_written_out(self):
        self.assert_same([nth_ranking(1, number) for number in range(2)], [((0,), 0), ((0,), 1)])
        self.assert_same([nth_ranking(2, number) for number in range(8)], [
            ((0, 0), 0), ((0, 0), 1), ((0, 1), 0), ((0, 1), 1), ((0, 1), 2), ((1, 0), 0), ((1, 0), 1), ((1, 0), 2),
        ])
        self.assert_same(nth_ranking(5, 2611), ((4, 3, 2, 1, 0), 5))

    def test_back_and_forth(self):
        for items in range(1, 6):
            rankings = rankings_by_definition(items)
            self.assertEqual(len(rankings), count_rankings(items))
            for number in range(0, len(rankings), 1 if items < 4 else 23):
                self.assert_same(nth_ranking(items, number), rankings[number])
                self.assert_same(ranking_number(rankings[number]), number)
            self.assert_same(nth_ranking(items, len(rankings) - 1), rankings[-1])
            self.assert_same(ranking_number(rankings[-1]), len(rankings) - 1)

    def test_errors(self):
        for items in (0, 6, 7, -1, -5, HUGE, -HUGE):
            self.assert_error(InvalidNumber, items, count_rankings, items)
            for number in (0, -1, 1, 5000, HUGE):
                self.assert_error(InvalidNumber, items, nth_ranking, items, number)
        for items, many in ((1, 2), (2, 8), (3, 44), (4, 308), (5, 2612)):
            for number in (-1, -many, many, many + 1, HUGE, -HUGE):
                self.assert_error(InvalidNumber, number, nth_ranking, items, number)


class RankingCheckTest(BranchTestCase):

    def test_every_function(self):
        for ranking in WRONG_RANKINGS + OTHER_TUPLES:
            self.assert_error(InvalidRanking, ranking, outcome_in, ranking, 0, 0)
            self.assert_error(InvalidRanking, ranking, least_width, ranking)
            self.assert_error(InvalidRanking, ranking, least_words, ranking, 4)
            self.assert_error(InvalidRanking, ranking, count_words, ranking, 4)
            self.assert_error(InvalidRanking, ranking, ranking_number, ranking)

    def test_before_other_errors(self):
        for ranking in WRONG_RANKINGS + OTHER_TUPLES:
            self.assert_error(InvalidRanking, ranking, outcome_in, ranking, -1, 9)
            self.assert_error(InvalidRanking, ranking, least_words, ranking, 0)
            self.assert_error(InvalidRanking, ranking, count_words, ranking, -1)

    def test_every_ranking_passes(self):
        for items in range(1, 6):
            for ranking in rankings_by_definition(items):
                self.assertEqual(outcome_in(ranking, 0, 0), "E")

    def test_against_all_tuples(self):
        for items in (1, 2, 3):
            rankings = rankings_by_definition(items)
            for ranks in itertools.product(range(-1, items + 1), repeat=items):
                for cut in range(-1, items + 2):
                    if (ranks, cut) in rankings:
                        self.assertGreaterEqual(least_width((ranks, cut)), 1)
                    else:
                        self.assert_error(InvalidRanking, (ranks, cut), least_width, (ranks, cut))


class InterfaceTest(BranchTestCase):

    def test_defined_in_this_file(self):
        for function in FUNCTIONS:
            self.assertEqual(function.__module__, "branchorders.rankings")
            self.assertIs(getattr(rankings_file, function.__name__), function)

    def test_by_name(self):
        ranking = ((1, 0, 1), 1)
        self.assert_same(ranking_of(words=(9, 2, 9), width=4), ranking)
        self.assert_same(outcome_in(second=1, first=0, ranking=ranking), "LA")
        self.assert_same(least_width(ranking=ranking), 1)
        self.assert_same(least_words(width=1, ranking=ranking), (1, 0, 1))
        self.assert_same(count_words(width=4, ranking=ranking), 64)
        self.assert_same(count_rankings(items=3), 44)
        self.assert_same(nth_ranking(number=0, items=2), ((0, 0), 0))
        self.assert_same(ranking_number(ranking=((0, 0), 1)), 1)

    def test_errors_by_name(self):
        self.assert_error(InvalidWords, 1, ranking_of, words=(0, 2), width=1)
        self.assert_error(InvalidNumber, 2, outcome_in, second=2, first=0, ranking=((0, 1), 1))
        self.assert_error(InvalidRanking, ((1,), 1), least_width, ranking=((1,), 1))
        self.assert_error(InvalidWidth, 0, least_words, width=0, ranking=((0,), 1))
        self.assert_error(InvalidWidth, 0, count_words, width=0, ranking=((0,), 1))
        self.assert_error(InvalidNumber, 6, count_rankings, items=6)
        self.assert_error(InvalidNumber, 8, nth_ranking, number=8, items=2)
        self.assert_error(InvalidRanking, ((1,), 1), ranking_number, ranking=((1,), 1))


if __name__ == "__main__":
    unittest.main()
