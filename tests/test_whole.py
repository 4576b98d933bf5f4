"""Points 2, 10 and 11: what the parts of the program say about each other."""

import copy
import random
import unittest

from branchorders.knowledge import closure, count_fulfilling, first_fulfilling
from branchorders.programs import Program
from branchorders.rankings import (
    count_rankings, count_words, least_width, least_words, nth_ranking, outcome_in, ranking_number, ranking_of,
)
from branchorders.runs import behaviour, count_steps, nth_out, run, steps
from branchorders.words import flipped, inverted
from helpers import OUTCOMES, BranchTestCase
from models import drawn_knowledge, drawn_rows, tuples_of_words

SORTS = Program(3, [
    ("cmp", "p", "q"), ("jif", "le", 3), ("swap", "p", "q"), ("cmp", "q", "r"), ("jif", "le", 7), ("swap", "q", "r"),
    ("jump", 0), ("out", "p"), ("out", "q"), ("out", "r"),
])


def rankings(items):
    return [nth_ranking(items, number) for number in range(count_rankings(items))]


class CountsTest(BranchTestCase):

    def test_rankings_share_all_words(self):
        for items in (1, 2, 3, 4):
            found = rankings(items)
            for width in (1, 2, 3, 8, 64, 300, 320):
                self.assertEqual(sum(count_words(ranking, width) for ranking in found), 2 ** (width * items))

    def test_five_items(self):
        self.assertEqual(count_fulfilling(5, [], 300), 2 ** 1500)
        found = [nth_ranking(5, number) for number in range(0, 2612, 71)]
        self.assertEqual(found, sorted(found))
        self.assertEqual([ranking_number(ranking) for ranking in found], list(range(0, 2612, 71)))

    def test_knowledge_of_a_ranking(self):
        """All outcomes of a ranking tell it from the others, except where all words have the same sign."""
        for items in (1, 2, 3):
            for ranking in rankings(items):
                pairs = [(i, j) for i in range(items) for j in range(i)]
                known = [(i, j, (outcome_in(ranking, i, j),)) for i, j in pairs]
                ranks, cut = ranking
                many = max(ranks) + 1
                likes = [(ranks, 0), (ranks, many)] if cut in (0, many) else [ranking]
                for width in (1, 2, 3, 300):
                    wanted = sum(count_words(like, width) for like in likes)
                    self.assert_same(count_fulfilling(items, known, width), wanted)
                    firsts = [least_words(like, width) for like in likes]
                    self.assert_same(first_fulfilling(items, known, width), min(filter(None, firsts), default=None))

    def test_widths_of_rankings(self):
        """Point 11, second sentence."""
        for items in (1, 2, 3):
            for width in (1, 2, 3, 4):
                found = {ranking_of(width, words) for words in tuples_of_words(width, items)}
                for ranks, cut in rankings(items):
                    fits = 2 ** (width - 1) >= cut and 2 ** (width - 1) >= max(ranks) + 1 - cut
                    self.assertEqual((ranks, cut) in found, fits)
                    self.assertEqual(least_width((ranks, cut)) <= width, fits)


class OtherOrdersTest(BranchTestCase):
    """Point 11, first sentence, by whole runs."""

    def check(self, change, other, program, width, words):
        ending, outs, ring = run(program, width, words)
        new_words = change(width, words)
        wanted = (ending, change(width, outs), change(width, ring))
        self.assert_same(run(other, width, new_words), wanted)
        self.assert_same(count_steps(other, width, new_words), count_steps(program, width, words))
        rows = [row for row, flag in steps(program, width, words)]
        self.assert_same([row for row, flag in steps(other, width, new_words)], rows)

    def check_both(self, program, width, words):
        self.check(flipped, program.exchanged(), program, width, words)
        self.check(inverted, program.mirrored(), program, width, words)
        self.check(lambda width, words: flipped(width, inverted(width, words)),
                   program.exchanged().mirrored(), program, width, words)

    def test_all_small_words(self):
        drawn = random.Random(12)
        programs = [SORTS] + [Program(3, drawn_rows(drawn, 3, 12)) for _ in range(15)]
        for program in programs:
            for words in tuples_of_words(2, 3):
                self.check_both(program, 2, words)

    def test_drawn_programs(self):
        drawn = random.Random(13)
        for number in range(300):
            inputs = 1 + number % 4
            program = Program(inputs, drawn_rows(drawn, inputs, drawn.choice((5, 10, 30))))
            for width in (1, 3, 64, 300):
                self.check_both(program, width, tuple(drawn.randrange(2 ** width) for _ in range(inputs)))


class SortsTest(BranchTestCase):

    def test_signed_order(self):
        for words in tuples_of_words(3, 3):
            ending, outs, ring = run(SORTS, 3, words)
            self.assert_same(outs, tuple(sorted(words, key=lambda word: word - 8 if word > 3 else word)))
            self.assert_same((ending, ring), ("stop", ()))

    def test_unsigned_order(self):
        for words in tuples_of_words(3, 3):
            self.assert_same(run(SORTS.exchanged(), 3, words)[1], tuple(sorted(words)))
            self.assert_same(run(SORTS.exchanged().mirrored(), 3, words)[1], tuple(sorted(words, reverse=True)))


class ArgumentsTest(BranchTestCase):
    """Point 2: arguments stay as they are, and what was returned is not kept."""

    def test_arguments_stay(self):
        drawn = random.Random(14)
        for number in range(60):
            inputs = 1 + number % 4
            rows = drawn_rows(drawn, inputs, 12)
            knowledge = drawn_knowledge(drawn, inputs, 4)
            before = copy.deepcopy((rows, knowledge))
            program = Program(inputs, rows)
            words = tuple(drawn.randrange(8) for _ in range(inputs))
            first = (run(program, 3, words), nth_out(program, 3, words, 2), list(steps(program, 3, words)),
                     behaviour(program, ranking_of(3, words)), closure(inputs, knowledge))
            self.assert_same((rows, knowledge), before)
            self.assert_same((program.inputs, program.rows), (inputs, before[0]))
            again = (run(program, 3, words), nth_out(program, 3, words, 2), list(steps(program, 3, words)),
                     behaviour(program, ranking_of(3, words)), closure(inputs, knowledge))
            self.assert_same(first, again)

    def test_lists_of_arguments_changed_later(self):
        rows = [("out", "p"), ("jump", 0)]
        program = Program(1, rows)
        walk = steps(program, 2, (3,))
        next(walk)
        rows[0] = ("stop",)
        program.rows.clear()
        self.assert_same(list(walk), [(1, None)])
        self.assert_same(run(program, 2, (3,)), ("endless", (), (3,)))
        known = [(0, 1, ("E",))]
        found = closure(2, known)
        known.append((0, 1, ("LB",)))
        self.assert_same(found, [(0, 1, ("E",))])
        found.append(known)
        self.assert_same(closure(2, []), [(0, 1, OUTCOMES)])


if __name__ == "__main__":
    unittest.main()
