"""Comparing: whether two programs do the same, and where they part."""

from branchorders.errors import UnlikeInputs
from branchorders.rankings import first_words, least_width, rankings_at
from branchorders.runs import behaviour
from branchorders.words import check_width_if_any


def check_same_inputs(first, second):
    """Raise UnlikeInputs if two programs have different numbers of inputs."""
    if first.inputs != second.inputs:
        raise UnlikeInputs(None)


def are_alike(first, second, width=None):
    """Return whether two programs do the same for all words of a width, or of all widths."""
    check_same_inputs(first, second)
    check_width_if_any(width)
    for ranking in rankings_at(first.inputs, width):
        if behaviour(first, ranking) != behaviour(second, ranking):
            return False
    return True


def parting_width(first, second):
    """Return the least width at which two programs are not alike, or None if there is none."""
    check_same_inputs(first, second)
    return min([least_width(ranking) for ranking in _parting_rankings(first, second, None)], default=None)


def first_difference(first, second, width):
    """Return the first words for which two programs do not do the same, or None if there are none."""
    check_same_inputs(first, second)
    check_width_if_any(width)
    return first_words(_parting_rankings(first, second, width), width)


def _parting_rankings(first, second, width):
    """Return the list of the rankings for which two programs do not do the same."""
    rankings = rankings_at(first.inputs, width)
    return [ranking for ranking in rankings if behaviour(first, ranking) != behaviour(second, ranking)]
