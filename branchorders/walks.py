"""Walks: the states of a run, from the first one up to its end or to the first one that comes again.

A state is a tuple (row, values, flag): the row that comes next, what the registers hold, and the flag or None.
The values are words, or ranks in place of words; those from a cut on are negative. The row is None behind a `stop`.
The rows are the placed rows of a program.
"""

from branchorders.programs import FLAG_WORDS
from branchorders.words import outcome_by_cut


def first_state(values):
    """Return the state in which a run with some inputs begins."""
    return (0, (*values, values[0], values[0]), None)


def ending_at(rows, state):
    """Return how a run ends in a state, `stop` or `fault`, or None if a step is done there."""
    row, _, flag = state
    if row is None or row == len(rows):
        return "stop"
    if rows[row][0] in FLAG_WORDS and flag is None:
        return "fault"
    return None


def state_behind(rows, cut, state):
    """Return the state behind the step that is done in a state."""
    number, values, flag = state
    row = rows[number]
    word = row[0]
    if word == "stop":
        return (None, values, flag)
    if word == "jump" or (word == "jif" and flag in row[1]):
        return (row[-1], values, flag)
    if word == "cmp":
        flag = outcome_by_cut(cut, values[row[1]], values[row[2]])
    elif word == "mov" or (word == "cmov" and flag in row[1]):
        values = with_value(values, row[-2], values[row[-1]])
    elif word == "swap":
        half_swapped = with_value(values, row[1], values[row[2]])
        values = with_value(half_swapped, row[2], values[row[1]])
    return (number + 1, values, flag)


def with_value(values, place, value):
    """Return the values with another one at a place."""
    return (*values[:place], value, *values[place + 1:])


def walk(rows, cut, values):
    """Return the list of the states in which a step is done, the state behind them, and the ending.

    If the ending is `endless`, the state behind them is the one of them that comes again.
    """
    # A dict keeps the order in which the states came, and tells quickly whether one has come before.
    passed = {}
    state = first_state(values)
    ending = ending_at(rows, state)
    while ending is None:
        passed[state] = True
        state = state_behind(rows, cut, state)
        ending = "endless" if state in passed else ending_at(rows, state)
    return (list(passed), state, ending)


def ranked_walk(program, ranking):
    """Return the same for a run with the ranks of a ranking in place of words."""
    # Code that only compares and moves does with the ranks what it does with the words.
    ranks, cut = ranking
    return walk(program.placed, cut, ranks)


def states_of(program, ranking):
    """Return the list of the states to which the run with the ranks of a ranking comes, the one at its end included."""
    states, last, _ = ranked_walk(program, ranking)
    return states + [last]
