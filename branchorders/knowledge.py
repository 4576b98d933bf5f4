"""Knowledge: what is known of the outcomes of some items, and what follows from it."""

from itertools import combinations

from branchorders.errors import InvalidKnowledge
from branchorders.outcomes import OUTCOMES, ordered_outcomes
from branchorders.rankings import all_rankings, check_items, count_words, first_words, outcome_between
from branchorders.words import check_width


def check_knowledge(items, knowledge):
    """Raise InvalidNumber for a wrong number of items, InvalidKnowledge for the first wrong tuple."""
    check_items(items)
    for index, known in enumerate(knowledge):
        if not _can_be_known(items, known):
            raise InvalidKnowledge(index)


def closure(items, knowledge):
    """Return what is known of all pairs of items, or None if the knowledge contradicts itself."""
    check_knowledge(items, knowledge)
    rankings = _fulfilling(items, knowledge)
    if not rankings:
        return None
    pairs = [(first, second) for first in range(items) for second in range(first + 1, items)]
    return [(first, second, _outcomes_among(rankings, first, second)) for first, second in pairs]


def contradiction(items, knowledge):
    """Return the indexes of the first of the smallest parts that contradict themselves, or None if there is none."""
    check_knowledge(items, knowledge)
    # Many rankings agree on what they fulfil, and a dict keeps each such answer once.
    answers = {_answers(ranking, knowledge): True for ranking in all_rankings(items)}
    indexes = list(range(len(knowledge)))
    for size in range(1, len(knowledge) + 1):
        for part in combinations(indexes, size):
            if not any([all([answer[index] for index in part]) for answer in answers]):
                return list(part)
    return None


def count_fulfilling(items, knowledge, width):
    """Return how many tuples of words fulfil knowledge."""
    check_knowledge(items, knowledge)
    check_width(width)
    return sum([count_words(ranking, width) for ranking in _fulfilling(items, knowledge)])


def first_fulfilling(items, knowledge, width):
    """Return the first words that fulfil knowledge, or None."""
    check_knowledge(items, knowledge)
    check_width(width)
    return first_words(_fulfilling(items, knowledge), width)


def _can_be_known(items, known):
    first, second, outcomes = known
    if first == second or min(first, second) < 0 or max(first, second) >= items:
        return False
    return all([outcome in OUTCOMES for outcome in outcomes])


def _fulfilling(items, knowledge):
    """Return the list of the rankings that fulfil all of the knowledge."""
    return [ranking for ranking in all_rankings(items) if all(_answers(ranking, knowledge))]


def _answers(ranking, knowledge):
    """Return for each tuple of the knowledge whether it is true for a ranking."""
    return tuple([outcome_between(ranking, first, second) in outcomes for first, second, outcomes in knowledge])


def _outcomes_among(rankings, first, second):
    return ordered_outcomes([outcome_between(ranking, first, second) for ranking in rankings])
