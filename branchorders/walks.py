"""Walks: the states of a run, from the first one up to its end or to the first one that comes again.

A state is a tuple (row, values, flag): the row that comes next, what the registers hold, and the flag or None.
The values are words, or ranks in place of words; those from a cut on are negative. The row is None behind a `stop`.
"""

from branchorders.outcomes import CONDITIONS
from branchorders.programs import parts_of, register_names
from branchorders.words import outcome_by_cut


def placed_rows(program):
    """Return the rows with places in place of registers, and with the outcomes in place of conditions."""
    names = register_names(program.inputs)
    return [_placed_row(row, names) for row in program.rows]


def first_state(values):
    """Return the state in which a run with some inputs begins."""
    return (0, (*values, values[0], values[0]), None)


def ending_at(rows, state):
    """Return how a run ends in a state, `stop` or `fault`, or None if a step is done there."""
    row, _, flag = state
    if row is None or row == len(rows):
        return "stop"
    if rows[row][0] in ("cmov", "jif") and flag is None:
        return "fault"
    return None


def state_behind(rows, cut, state):
    """Return the state behind the step that is done in a state."""
    number, values, flag = state
    row = rows[number]
    word = row[0]
    if word == "stop":
        return (None, values, flag)
    if word == "jump" or (word == "jif" and flag in row[1]):
        return (row[-1], values, flag)
    if word == "cmp":
        flag = outcome_by_cut(cut, values[row[1]], values[row[2]])
    elif word == "mov" or (word == "cmov" and flag in row[1]):
        values = _with_value(values, row[-2], values[row[-1]])
    elif word == "swap":
        half_swapped = _with_value(values, row[1], values[row[2]])
        values = _with_value(half_swapped, row[2], values[row[1]])
    return (number + 1, values, flag)


def walk(rows, cut, state):
    """Return the list of the states in which a step is done, the state behind them, and the ending.

    If the ending is `endless`, the state behind them is the one of them that comes again.
    """
    # A dict keeps the order in which the states came, and tells quickly whether one has come before.
    passed = {}
    ending = ending_at(rows, state)
    while ending is None:
        passed[state] = True
        state = state_behind(rows, cut, state)
        ending = "endless" if state in passed else ending_at(rows, state)
    return (list(passed), state, ending)


def _placed_row(row, names):
    placed = [_placed_item(kind, item, names) for kind, item in parts_of(row)]
    return (row[0], *placed)


def _placed_item(kind, item, names):
    if kind == "R":
        return names.index(item)
    return CONDITIONS[item] if kind == "C" else item


def _with_value(values, place, value):
    return (*values[:place], value, *values[place + 1:])
