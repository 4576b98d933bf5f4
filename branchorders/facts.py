"""Facts: what can happen at the rows of a program, for words of a width or of all widths.

Runs with ranks in place of words tell it, one for each ranking: the words of a ranking all do the same.
"""

from branchorders.comparing import are_alike
from branchorders.errors import InvalidRegister, InvalidRow
from branchorders.outcomes import CONDITIONS, ordered_outcomes
from branchorders.programs import FLAG_WORDS, register_names
from branchorders.rankings import first_words, rankings_at
from branchorders.walks import states_of
from branchorders.words import check_width_if_any, outcome_by_cut


def check_row(program, row):
    """Raise InvalidRow if a row is less than 0 or greater than the number of rows."""
    if row < 0 or row > len(program):
        raise InvalidRow(row)


def comes_to(program, ranking, row):
    """Return whether the run of the words with a ranking comes to a row."""
    return len(_states_at(program, ranking, row)) > 0


def dead_rows(program, width=None):
    """Return the list of the rows to which no run comes."""
    check_width_if_any(width)
    rankings = rankings_at(program.inputs, width)
    reached = {state[0] for ranking in rankings for state in states_of(program, ranking)}
    return [row for row in range(len(program)) if row not in reached]


def acting(program, row, width=None):
    """Return what runs do at a `cmov` or `jif`: those of `acts`, `passes`, `faults` that some run does."""
    if row < 0 or row >= len(program) or program.rows[row][0] not in FLAG_WORDS:
        raise InvalidRow(row)
    check_width_if_any(width)
    condition = program.rows[row][1]
    rankings = rankings_at(program.inputs, width)
    done = {_deed(condition, state[2]) for ranking in rankings for state in _states_at(program, ranking, row)}
    return tuple([word for word in ("acts", "passes", "faults") if word in done])


def outcomes_at(program, row, first, second, width=None):
    """Return the outcomes that the words in two registers have when some run comes to a row."""
    check_row(program, row)
    names = register_names(program.inputs)
    for name in (first, second):
        if name not in names:
            raise InvalidRegister(name)
    check_width_if_any(width)
    places = (names.index(first), names.index(second))
    rankings = rankings_at(program.inputs, width)
    found = {_outcome_in(ranking, state, places) for ranking in rankings for state in _states_at(program, ranking, row)}
    return ordered_outcomes(sorted(found))


def first_reaching(program, row, width):
    """Return the first words with which a run comes to a row, or None if there are none."""
    check_row(program, row)
    check_width_if_any(width)
    rankings = rankings_at(program.inputs, width)
    return first_words([ranking for ranking in rankings if comes_to(program, ranking, row)], width)


def simplified(program, width=None):
    """Return the program that remains when rows without which it is alike are left out, always the last such one."""
    check_width_if_any(width)
    row = _last_needless_row(program, width)
    while row is not None:
        program = program.without(row)
        row = _last_needless_row(program, width)
    return program


def _states_at(program, ranking, row):
    """Return the list of the states in which the run of the words with a ranking comes to a row."""
    return [state for state in states_of(program, ranking) if state[0] == row]


def _deed(condition, flag):
    if flag is None:
        return "faults"
    return "acts" if flag in CONDITIONS[condition] else "passes"


def _outcome_in(ranking, state, places):
    """Return the outcome of what the registers at two places hold in a state."""
    _, cut = ranking
    first, second = places
    return outcome_by_cut(cut, state[1][first], state[1][second])


def _last_needless_row(program, width):
    """Return the last row without which a program is alike, or None if there is none."""
    for row in reversed(range(len(program))):
        if are_alike(program, program.without(row), width):
            return row
    return None
