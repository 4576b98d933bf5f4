"""Points 5 and 6, and the interface of branchorders/knowledge.py."""

import copy
import itertools
import random
import unittest

from branchorders import knowledge as knowledge_file
from branchorders.errors import InvalidKnowledge, InvalidNumber, InvalidWidth
from branchorders.knowledge import closure, contradiction, count_fulfilling, first_fulfilling
from helpers import HUGE, OUTCOMES, BranchTestCase
from models import ENOUGH, drawn_knowledge, fulfils, outcomes_by_items, rankings_by_definition, tuples_of_words

FUNCTIONS = (closure, contradiction, count_fulfilling, first_fulfilling)

WRONG_OUTCOMES = ("", "e", "lb", "L", "be", "ELB", " E", "GA ", "same")


def worlds(width, items):
    """All tuples of words, each with the outcomes of its items."""
    return [(words, outcomes_by_items(width, words)) for words in tuples_of_words(width, items)]


def kinds_of_worlds(found):
    """The outcomes of the items, each once: many words have the same ones."""
    return list({tuple(outcomes.values()): outcomes for _, outcomes in found}.values())


def closure_by_worlds(items, knowledge, kinds):
    fitting = [outcomes for outcomes in kinds if fulfils(outcomes, knowledge)]
    if not fitting:
        return None
    return [
        (i, j, tuple(outcome for outcome in OUTCOMES if any(outcomes[i, j] == outcome for outcomes in fitting)))
        for i, j in itertools.combinations(range(items), 2)
    ]


def contradiction_by_worlds(knowledge, kinds):
    parts = [[]]
    for index in range(len(knowledge)):
        parts += [part + [index] for part in parts]
    for part in sorted(parts, key=lambda part: (len(part), part)):
        if not any(fulfils(outcomes, [knowledge[index] for index in part]) for outcomes in kinds):
            return part
    return None


def five_items():
    """The outcomes of five items for each ranking, by words of the width 4."""
    kinds = []
    for ranks, cut in rankings_by_definition(5):
        words = tuple(rank if rank < cut else 8 + rank - cut for rank in ranks)
        kinds.append(outcomes_by_items(4, words))
    return kinds


def drawn_cases(items):
    """Drawn knowledge, from none up to eight tuples."""
    drawn = random.Random(items)
    return [drawn_knowledge(drawn, items, number % 9) for number in range(150)]


class FollowingTest(BranchTestCase):
    """`closure` and `contradiction`."""

    def check(self, items, knowledge, kinds):
        before = copy.deepcopy(knowledge)
        wanted = closure_by_worlds(items, knowledge, kinds)
        self.assert_same(closure(items, knowledge), wanted)
        self.assert_same(contradiction(items, knowledge), contradiction_by_worlds(knowledge, kinds))
        self.assertEqual(knowledge, before)
        return wanted is None

    def test_drawn_against_all_words(self):
        for items, width in ENOUGH.items():
            kinds = kinds_of_worlds(worlds(width, items))
            impossible = [self.check(items, knowledge, kinds) for knowledge in drawn_cases(items)]
            if items > 1:
                self.assertGreater(impossible.count(True), 20)
                self.assertGreater(impossible.count(False), 20)

    def test_five_items_with_eight_tuples(self):
        kinds = five_items()
        drawn = random.Random(58)
        impossible = 0
        for _ in range(12):
            knowledge = [(i, j, outcomes + ("E",)) for i, j, outcomes in drawn_knowledge(drawn, 5, 4)]
            knowledge += [(i, j, outcomes) for i, j, outcomes in drawn_knowledge(drawn, 5, 4) if outcomes]
            knowledge += [(0, 1, OUTCOMES)] * (8 - len(knowledge))
            impossible += self.check(5, knowledge, kinds)
        self.assertIn(impossible, range(1, 12))

    def test_single_tuples(self):
        """All sets of outcomes of two items, told from either side."""
        kinds = kinds_of_worlds(worlds(2, 2))
        for number in range(32):
            outcomes = tuple(outcome for place, outcome in enumerate(OUTCOMES) if number >> place & 1)
            self.check(2, [(0, 1, outcomes)], kinds)
            self.check(2, [(1, 0, outcomes[::-1] + outcomes)], kinds)

    def test_two_tuples_about_the_same_items(self):
        kinds = kinds_of_worlds(worlds(2, 2))
        for first, second in itertools.product(OUTCOMES, repeat=2):
            for pair in ((0, 1), (1, 0)):
                self.check(2, [(0, 1, (first,)), (*pair, (second,))], kinds)
                self.check(2, [(0, 1, (first, second)), (*pair, (second,))], kinds)

    def test_one_item(self):
        self.assert_same(closure(1, []), [])
        self.assert_same(contradiction(1, []), None)

    def test_empty_knowledge(self):
        for items in range(1, 6):
            wanted = [(i, j, OUTCOMES) for i, j in itertools.combinations(range(items), 2)]
            self.assert_same(closure(items, []), wanted)
            self.assert_same(contradiction(items, []), None)

    def test_first_of_the_smallest_parts(self):
        clash = [(0, 1, ("LB",)), (1, 2, ("LB",)), (0, 2, ("GA",)), (3, 4, ("E",)), (3, 4, ("LA",)), (4, 3, ("LB",))]
        self.assert_same(contradiction(5, clash), [3, 4])
        self.assert_same(contradiction(5, clash[:4]), [0, 1, 2])
        self.assert_same(contradiction(5, clash[:2]), None)
        self.assert_same(contradiction(5, clash + [(2, 3, ())]), [6])
        self.assert_same(contradiction(5, [(2, 3, ()), (0, 1, ())] + clash), [0])
        # No word is both negative and not; the pairs [0, 2], [0, 3], [1, 2] and [1, 3] come later or are no clash.
        circle = [(0, 1, ("GB",)), (1, 2, ("GB",)), (1, 2, ("LA",)), (2, 1, ("GB", "E"))]
        self.assert_same(contradiction(3, circle), [0, 1])
        mixed_twice = [(0, 1, ("LA", "GB")), (1, 2, ("LA", "GB")), (0, 2, ("LA", "GB"))]
        self.assert_same(contradiction(3, mixed_twice), [0, 1, 2])

    def test_new_lists(self):
        known = [(0, 1, ("GB",))]
        first, second = closure(3, known), closure(3, known)
        first.clear()
        self.assert_same(closure(3, known), second)
        clash = [(0, 1, ()), (0, 1, ("E",))]
        found = contradiction(2, clash)
        found.append(7)
        self.assert_same(contradiction(2, clash), [0])


class FulfillingTest(BranchTestCase):
    """`count_fulfilling` and `first_fulfilling`."""

    def test_drawn_against_all_words(self):
        for items in ENOUGH:
            for width in (1, 2, 3):
                found = worlds(width, items)
                for knowledge in drawn_cases(items)[:60 if items < 4 else 20]:
                    before = copy.deepcopy(knowledge)
                    fitting = [words for words, outcomes in found if fulfils(outcomes, knowledge)]
                    self.assert_same(count_fulfilling(items, knowledge, width), len(fitting))
                    self.assert_same(first_fulfilling(items, knowledge, width), fitting[0] if fitting else None)
                    self.assertEqual(knowledge, before)

    def test_five_items_against_all_words(self):
        found = worlds(2, 5)
        drawn = random.Random(55)
        possible = 0
        for number in range(24):
            # Some outcomes more, so that much knowledge does not always contradict itself.
            many_known = drawn_knowledge(drawn, 5, 1 + number % 8)
            knowledge = [(i, j, outcomes + ("LB", "E", "LA")) for i, j, outcomes in many_known]
            fitting = [words for words, outcomes in found if fulfils(outcomes, knowledge)]
            self.assert_same(count_fulfilling(5, knowledge, 2), len(fitting))
            self.assert_same(first_fulfilling(5, knowledge, 2), fitting[0] if fitting else None)
            possible += len(fitting) > 0
        self.assertGreater(possible, 5)

    def test_no_knowledge_counts_all_words(self):
        for items in range(1, 6):
            for width in (1, 2, 3, 8, 64, 300, 350):
                self.assert_same(count_fulfilling(items, [], width), 2 ** (width * items))
                self.assert_same(first_fulfilling(items, [], width), (0,) * items)

    def test_pairs_at_great_widths(self):
        for width in (8, 64, 300):
            half = 2 ** (width - 1)
            pairs = half * (half - 1) // 2
            for outcomes, count, first in (
                (("E",), 2 * half, (0, 0)), (("LB",), 2 * pairs, (0, 1)), (("GA",), 2 * pairs, (1, 0)),
                (("GB",), half ** 2, (0, half)), (("LA",), half ** 2, (half, 0)), ((), 0, None),
                (("LA", "GA"), half ** 2 + 2 * pairs, (1, 0)), (("GB", "LA", "GB"), 2 * half ** 2, (0, half)),
                (OUTCOMES, 4 * half ** 2, (0, 0)),
            ):
                self.assert_same(count_fulfilling(2, [(0, 1, outcomes)], width), count)
                self.assert_same(first_fulfilling(2, [(0, 1, outcomes)], width), first)

    def test_five_items_at_great_widths(self):
        chain = [(item, item + 1, ("LB",)) for item in range(4)]
        for width in (1, 2, 3):
            self.assert_same(count_fulfilling(5, chain, width), 0)
            self.assert_same(first_fulfilling(5, chain, width), None)
        self.assert_same(count_fulfilling(5, chain, 4), 2 * 56)
        for width in (4, 64, 300):
            half = 2 ** (width - 1)
            ways = half * (half - 1) * (half - 2) * (half - 3) * (half - 4) // 120
            self.assert_same(count_fulfilling(5, chain, width), 2 * ways)
            self.assert_same(first_fulfilling(5, chain, width), (0, 1, 2, 3, 4))
            over_zero = chain[:2] + [(2, 3, ("GB",))] + chain[3:]
            self.assert_same(first_fulfilling(5, over_zero, width), (0, 1, 2, half, half + 1))
            triples, twos = half * (half - 1) * (half - 2) // 6, half * (half - 1) // 2
            self.assert_same(count_fulfilling(5, over_zero, width), triples * twos)

    def test_one_item(self):
        self.assert_same(count_fulfilling(1, [], 1), 2)
        self.assert_same(first_fulfilling(1, [], 1), (0,))


def wrong_tuples(items):
    """Tuples that cannot be known of so many items."""
    found = [(item, item, ("E",)) for item in range(items)]
    for wrong in (-1, -items, items, items + 1, HUGE, -HUGE):
        found += [(wrong, 0, ("E",)), (0, wrong, ("E",)), (wrong, wrong, ("E",)), (wrong, wrong + 1, ())]
    if items > 1:
        for outcome in WRONG_OUTCOMES:
            found += [(0, 1, (outcome,)), (1, 0, ("E", outcome)), (0, 1, (outcome, "LB"))]
            found.append((0, 1, OUTCOMES + (outcome,)))
    return found


class KnowledgeCheckTest(BranchTestCase):

    def assert_errors(self, kind, value, items, knowledge, widths=(1, 3, 300)):
        self.assert_error(kind, value, closure, items, knowledge)
        self.assert_error(kind, value, contradiction, items, knowledge)
        for width in widths:
            self.assert_error(kind, value, count_fulfilling, items, knowledge, width)
            self.assert_error(kind, value, first_fulfilling, items, knowledge, width)

    def test_items(self):
        for items in (0, 6, 7, -1, HUGE, -HUGE):
            for knowledge in ([], [(0, 1, ("E",))], [(0, 0, ("x",))]):
                self.assert_errors(InvalidNumber, items, items, knowledge, (3, 0, -1))

    def test_tuples(self):
        for items in range(1, 6):
            for wrong in wrong_tuples(items):
                self.assert_errors(InvalidKnowledge, 0, items, [wrong], (3, 0))

    def test_first_wrong_tuple(self):
        good = [(0, 1, ("E", "GB")), (2, 0, ()), (1, 2, OUTCOMES), (0, 1, ("LA",))]
        for wrong in wrong_tuples(3):
            for place in range(len(good) + 1):
                self.assert_errors(InvalidKnowledge, place, 3, good[:place] + [wrong] + good[place:], (3, 0))
                several = good[:place] + [wrong, (9, 9, ("x",))] + good[place:]
                self.assert_errors(InvalidKnowledge, place, 3, several, (2, -5))

    def test_one_item_has_no_pairs(self):
        for known in ((0, 0, ("E",)), (0, 1, ("E",)), (1, 0, ())):
            self.assert_errors(InvalidKnowledge, 0, 1, [known])

    def test_widths(self):
        for width in (0, -1, -300, -HUGE):
            for knowledge in ([], [(0, 1, ("E",))], [(0, 1, ())]):
                self.assert_error(InvalidWidth, width, count_fulfilling, 2, knowledge, width)
                self.assert_error(InvalidWidth, width, first_fulfilling, 2, knowledge, width)

    def test_knowledge_stays(self):
        knowledge = [(0, 1, ("E",)), (0, 0, ("E",))]
        self.assert_errors(InvalidKnowledge, 1, 2, knowledge)
        self.assert_same(knowledge, [(0, 1, ("E",)), (0, 0, ("E",))])


class InterfaceTest(BranchTestCase):

    def test_defined_in_this_file(self):
        for function in FUNCTIONS:
            self.assertEqual(function.__module__, "branchorders.knowledge")
            self.assertIs(getattr(knowledge_file, function.__name__), function)

    def test_by_name(self):
        known = [(0, 1, ("GB",)), (1, 2, ("LB", "E"))]
        self.assert_same(closure(knowledge=known, items=3)[1], (0, 2, ("GB",)))
        self.assert_same(contradiction(knowledge=known + [(0, 2, ("E", "LA"))], items=3), [0, 1, 2])
        self.assert_same(count_fulfilling(width=2, knowledge=known, items=3), 6)
        self.assert_same(first_fulfilling(width=2, knowledge=known, items=3), (0, 2, 2))

    def test_errors_by_name(self):
        self.assert_error(InvalidNumber, 0, closure, knowledge=[], items=0)
        self.assert_error(InvalidKnowledge, 0, contradiction, knowledge=[(0, 2, ())], items=2)
        self.assert_error(InvalidWidth, 0, count_fulfilling, width=0, knowledge=[], items=1)
        self.assert_error(InvalidWidth, -1, first_fulfilling, width=-1, knowledge=[], items=1)


if __name__ == "__main__":
    unittest.main()
