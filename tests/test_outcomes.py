"""Points 5 and 11, and the interface of branchorders/outcomes.py."""

import itertools
import unittest

from branchorders import outcomes as outcomes_file
from branchorders.errors import InvalidCondition, InvalidOutcome
from branchorders.outcomes import composed, condition_of, exchanged, outcomes_of, reversed_condition, shortest_chain
from branchorders.words import flipped, inverted
from helpers import MEANINGS, OUTCOMES, BranchTestCase, all_words, edge_words, outcome_of

WRONG_OUTCOMES = ("", "e", "lb", "Lb", "EE", "L", "B", "BL", "GA ", " E", "be", "ELB", "None", "E, LB")
WRONG_CONDITIONS = ("", "E", "LB", "NE", "Be", "bE", "Same", "MIXED", "eq", "el", "lb", "be ", " l", "samemixed", "true")

SETS = [tuple(outcome for place, outcome in enumerate(OUTCOMES) if number >> place & 1) for number in range(32)]


def pairs_of_words():
    for width in (1, 2, 3):
        for first in all_words(width):
            for second in all_words(width):
                yield width, first, second
    for width in (8, 300):
        for first in edge_words(width):
            for second in edge_words(width):
                yield width, first, second


class ConditionsTest(BranchTestCase):

    def test_outcomes_of(self):
        for condition, wanted in MEANINGS:
            self.assert_same(outcomes_of(condition), wanted)

    def test_outcomes_of_by_words(self):
        signs = {"e": lambda a, b: a == b, "ne": lambda a, b: a != b}
        orders = {"l": lambda a, b: a < b, "le": lambda a, b: a <= b, "g": lambda a, b: a > b, "ge": lambda a, b: a >= b}
        unsigned = {"b": orders["l"], "be": orders["le"], "a": orders["g"], "ae": orders["ge"]}
        for width, first, second in pairs_of_words():
            half = 2 ** (width - 1)
            values = [word - 2 * half if word >= half else word for word in (first, second)]
            outcome = outcome_of(width, first, second)
            for condition, holds in signs.items():
                self.assertEqual(outcome in outcomes_of(condition), holds(first, second))
            for condition, holds in orders.items():
                self.assertEqual(outcome in outcomes_of(condition), holds(*values))
            for condition, holds in unsigned.items():
                self.assertEqual(outcome in outcomes_of(condition), holds(first, second))
            self.assertEqual(outcome in outcomes_of("same"), (first < half) == (second < half))
            self.assertEqual(outcome in outcomes_of("mixed"), (first < half) != (second < half))

    def test_condition_of_all_sets(self):
        wanted = {outcomes: condition for condition, outcomes in MEANINGS}
        named = [condition_of(outcomes) for outcomes in SETS]
        self.assertEqual(len([condition for condition in named if condition is not None]), 12)
        for outcomes in SETS:
            self.assert_same(condition_of(outcomes), wanted.get(outcomes))

    def test_condition_of_other_sequences(self):
        wanted = {outcomes: condition for condition, outcomes in MEANINGS}
        for outcomes in SETS:
            for sequence in itertools.permutations(outcomes):
                self.assert_same(condition_of(sequence), wanted.get(outcomes))
                self.assert_same(condition_of(sequence + sequence[:1]), wanted.get(outcomes))
                self.assert_same(condition_of(sequence + sequence[::-1]), wanted.get(outcomes))

    def test_condition_of_none_and_all(self):
        self.assertIsNone(condition_of(()))
        self.assertIsNone(condition_of(OUTCOMES))
        self.assertIsNone(condition_of(("LB",)))

    def test_errors(self):
        for condition in WRONG_CONDITIONS:
            self.assert_error(InvalidCondition, condition, outcomes_of, condition)
        for outcome in WRONG_OUTCOMES:
            check_places(self, condition_of, outcome)


class ComposedTest(BranchTestCase):

    def test_against_triples_of_words(self):
        possible = {pair: set() for pair in itertools.product(OUTCOMES, repeat=2)}
        for a, b, c in itertools.product(all_words(3), repeat=3):
            possible[outcome_of(3, a, b), outcome_of(3, b, c)].add(outcome_of(3, a, c))
        self.assertEqual(len(possible), 25)
        for (first, second), found in possible.items():
            wanted = tuple(outcome for outcome in OUTCOMES if outcome in found)
            self.assert_same(composed(first, second), wanted)

    def test_impossible(self):
        self.assert_same(composed("GB", "GB"), ())
        self.assert_same(composed("LA", "LA"), ())

    def test_errors(self):
        for wrong in WRONG_OUTCOMES:
            for good in OUTCOMES:
                self.assert_error(InvalidOutcome, wrong, composed, wrong, good)
                self.assert_error(InvalidOutcome, wrong, composed, good, wrong)
            self.assert_error(InvalidOutcome, wrong, composed, wrong, "other")
            self.assert_error(InvalidOutcome, "other", composed, "other", wrong)


class OtherOrdersTest(BranchTestCase):

    def test_written_out(self):
        names = [condition for condition, outcomes in MEANINGS]
        swapped = ["e", "ne", "b", "be", "a", "ae", "l", "le", "g", "ge", "same", "mixed"]
        mirrored = ["e", "ne", "g", "ge", "l", "le", "a", "ae", "b", "be", "same", "mixed"]
        self.assert_same([exchanged(condition) for condition in names], swapped)
        self.assert_same([reversed_condition(condition) for condition in names], mirrored)

    def test_exchanged_with_sign_bits_changed(self):
        for width, first, second in pairs_of_words():
            before = outcome_of(width, first, second)
            behind = outcome_of(width, *flipped(width, (first, second)))
            for condition, outcomes in MEANINGS:
                self.assertEqual(behind in outcomes_of(exchanged(condition)), before in outcomes)

    def test_reversed_with_all_bits_changed(self):
        for width, first, second in pairs_of_words():
            before = outcome_of(width, first, second)
            behind = outcome_of(width, *inverted(width, (first, second)))
            for condition, outcomes in MEANINGS:
                self.assertEqual(behind in outcomes_of(reversed_condition(condition)), before in outcomes)

    def test_twice(self):
        for condition, _ in MEANINGS:
            self.assert_same(exchanged(exchanged(condition)), condition)
            self.assert_same(reversed_condition(reversed_condition(condition)), condition)

    def test_errors(self):
        for condition in WRONG_CONDITIONS:
            self.assert_error(InvalidCondition, condition, exchanged, condition)
            self.assert_error(InvalidCondition, condition, reversed_condition, condition)


def answered(chain):
    """The outcomes for which a chain answers True."""
    meanings = dict(MEANINGS)
    rules, last = chain
    found = []
    for outcome in OUTCOMES:
        answers = [answer for condition, answer in rules if outcome in meanings[condition]]
        if (answers + [last])[0]:
            found.append(outcome)
    return tuple(found)


def fewest_rules():
    """For each set of outcomes the least number of rules, found by looking at all chains."""
    every_rule = [(condition, answer) for condition, _ in MEANINGS for answer in (True, False)]
    fewest = {}
    for many in range(4):
        for rules in itertools.product(every_rule, repeat=many):
            for last in (True, False):
                fewest.setdefault(answered((rules, last)), many)
        if len(fewest) == len(SETS):
            return fewest
    raise AssertionError("some set of outcomes needs more than three rules")


class ShortestChainTest(BranchTestCase):

    def assert_is_chain(self, chain):
        self.assertIs(type(chain), tuple)
        rules, last = chain
        self.assertIs(type(rules), tuple)
        self.assertIs(type(last), bool)
        for rule in rules:
            self.assertIs(type(rule), tuple)
            condition, answer = rule
            self.assertIn(condition, dict(MEANINGS))
            self.assertIs(type(answer), bool)

    def test_all_sets(self):
        fewest = fewest_rules()
        for outcomes in SETS:
            chain = shortest_chain(outcomes)
            self.assert_is_chain(chain)
            self.assertEqual(answered(chain), outcomes)
            self.assertEqual(len(chain[0]), fewest[outcomes])

    def test_other_sequences(self):
        for outcomes in SETS:
            for sequence in (outcomes[::-1], outcomes + outcomes, outcomes[1:] + outcomes):
                chain = shortest_chain(sequence)
                self.assert_is_chain(chain)
                self.assertEqual(answered(chain), outcomes)
                self.assertEqual(len(chain[0]), len(shortest_chain(outcomes)[0]))

    def test_without_rules(self):
        self.assert_same(shortest_chain(()), ((), False))
        self.assert_same(shortest_chain(OUTCOMES), ((), True))

    def test_conditions_need_one_rule(self):
        for _, outcomes in MEANINGS:
            self.assertEqual(len(shortest_chain(outcomes)[0]), 1)

    def test_errors(self):
        for outcome in WRONG_OUTCOMES:
            check_places(self, shortest_chain, outcome)


def check_places(case, function, wrong):
    """The first wrong one of the outcomes counts, at each place."""
    for place in range(len(OUTCOMES) + 1):
        case.assert_error(InvalidOutcome, wrong, function, OUTCOMES[:place] + (wrong,) + OUTCOMES[place:])
        case.assert_error(InvalidOutcome, wrong, function, OUTCOMES[:place] + (wrong, "other", "E", ""))
    case.assert_error(InvalidOutcome, wrong, function, (wrong,))


class InterfaceTest(BranchTestCase):

    def test_defined_in_this_file(self):
        for function in (outcomes_of, condition_of, composed, exchanged, reversed_condition, shortest_chain):
            self.assertEqual(function.__module__, "branchorders.outcomes")
            self.assertIs(getattr(outcomes_file, function.__name__), function)

    def test_by_name(self):
        self.assert_same(outcomes_of(condition="be"), ("E", "LB", "GB"))
        self.assert_same(condition_of(outcomes=("LA", "GB")), "mixed")
        self.assert_same(composed(second="E", first="GB"), ("GB",))
        self.assert_same(composed(first="E", second="LA"), ("LA",))
        self.assert_same(exchanged(condition="le"), "be")
        self.assert_same(reversed_condition(condition="l"), "g")
        self.assert_same(shortest_chain(outcomes=()), ((), False))

    def test_errors_by_name(self):
        self.assert_error(InvalidCondition, "x", outcomes_of, condition="x")
        self.assert_error(InvalidOutcome, "x", condition_of, outcomes=("E", "x"))
        self.assert_error(InvalidOutcome, "x", composed, second="y", first="x")
        self.assert_error(InvalidCondition, "x", exchanged, condition="x")
        self.assert_error(InvalidCondition, "x", reversed_condition, condition="x")
        self.assert_error(InvalidOutcome, "x", shortest_chain, outcomes=("x",))


if __name__ == "__main__":
    unittest.main()
