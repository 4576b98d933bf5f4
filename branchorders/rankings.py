"""Rankings: the order of some words and how many of them are not negative."""

from math import comb

from branchorders.errors import InvalidNumber, InvalidRanking
from branchorders.words import check_width, check_words, outcome_by_cut, sign_bit

MOST_ITEMS = 5


def check_ranking(ranking):
    """Raise InvalidRanking for a tuple that is no ranking."""
    if not _is_ranking(ranking):
        raise InvalidRanking(ranking)


def check_items(items):
    """Raise InvalidNumber if there are too few or too many items."""
    if items < 1 or items > MOST_ITEMS:
        raise InvalidNumber(items)


def ranking_of(width, words):
    """Return the ranking of some words."""
    check_width(width)
    check_words(width, words)
    different = sorted(set(words))
    not_negative = [word for word in different if word < sign_bit(width)]
    return (tuple([different.index(word) for word in words]), len(not_negative))


def outcome_in(ranking, first, second):
    """Return the outcome of two items of a ranking."""
    check_ranking(ranking)
    for number in (first, second):
        if number < 0 or number >= len(ranking[0]):
            raise InvalidNumber(number)
    return outcome_between(ranking, first, second)


def outcome_between(ranking, first, second):
    """Return the outcome of two items that a valid ranking surely has."""
    ranks, cut = ranking
    return outcome_by_cut(cut, ranks[first], ranks[second])


def least_width(ranking):
    """Return the least width of words with a ranking."""
    check_ranking(ranking)
    # Of both signs there are 2 ** (width - 1) words, and the sign with more different ranks decides.
    return 1 + (max(_ranks_by_sign(ranking)) - 1).bit_length()


def least_words(ranking, width):
    """Return the first words with a ranking, or None if the width is too little for it."""
    check_ranking(ranking)
    check_width(width)
    if not _fits(ranking, width):
        return None
    ranks, cut = ranking
    # Each word is the least one that it can be, and so these words are the first ones.
    return tuple([rank if rank < cut else sign_bit(width) + rank - cut for rank in ranks])


def count_words(ranking, width):
    """Return how many tuples of words have a ranking."""
    check_ranking(ranking)
    check_width(width)
    not_negative, negative = _ranks_by_sign(ranking)
    return comb(sign_bit(width), not_negative) * comb(sign_bit(width), negative)


def count_rankings(items):
    """Return the number of rankings of so many items."""
    check_items(items)
    return len(all_rankings(items))


def nth_ranking(items, number):
    """Return the ranking of so many items with a number, in the order of rankings."""
    check_items(items)
    rankings = all_rankings(items)
    if number < 0 or number >= len(rankings):
        raise InvalidNumber(number)
    return rankings[number]


def ranking_number(ranking):
    """Return the number of a ranking in the order of rankings."""
    check_ranking(ranking)
    return all_rankings(len(ranking[0])).index(ranking)


def all_rankings(items):
    """Return the list of all rankings of so many items, in order."""
    found = [()]
    for _ in range(items):
        longer = [ranks + (rank,) for ranks in found for rank in range(items)]
        # Only so many gaps can still be closed as ranks follow.
        found = [ranks for ranks in longer if _gaps(ranks) <= items - len(ranks)]
    return [(ranks, cut) for ranks in found for cut in range(max(ranks) + 2)]


def rankings_at(items, width):
    """Return the list of the rankings that words of a width have, in order; of all rankings if the width is None."""
    return [ranking for ranking in all_rankings(items) if width is None or _fits(ranking, width)]


def first_words(rankings, width):
    """Return the first words of a width, or of any if it is None, that have one of some rankings; None if none has."""
    # A ranking has its least words at its least width: where more bits change them, they make them greater.
    found = [least_words(ranking, least_width(ranking) if width is None else width) for ranking in rankings]
    return min([words for words in found if words is not None], default=None)


def _is_ranking(ranking):
    if len(ranking) != 2 or type(ranking[0]) is not tuple:
        return False
    ranks, cut = ranking
    if any([type(number) is not int for number in (*ranks, cut)]):
        return False
    many = len(set(ranks))
    return sorted(set(ranks)) == list(range(many)) and 0 <= cut <= many


def _ranks_by_sign(ranking):
    """Return how many different ranks are not negative, and how many are negative."""
    ranks, cut = ranking
    return (cut, len(set(ranks)) - cut)


def _fits(ranking, width):
    """Return whether there are enough words of both signs for a ranking."""
    return max(_ranks_by_sign(ranking)) <= sign_bit(width)


def _gaps(ranks):
    """Return how many ranks are left out below the greatest one."""
    return max(ranks) + 1 - len(set(ranks))
