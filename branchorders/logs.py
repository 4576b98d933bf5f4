"""Logs: whether the first `jif` rows of a run jumped, and what an incomplete log of them tells."""

from branchorders.errors import InvalidNumber
from branchorders.outcomes import ordered_outcomes
from branchorders.rankings import all_rankings, count_words, outcome_between, rankings_at
from branchorders.runs import check_input
from branchorders.walks import walk
from branchorders.words import check_width, sign_bit


def decisions(program, width, words, most):
    """Return the list of the first decisions of a run, of so many at most."""
    check_width(width)
    check_input(program, width, words)
    if most < 0:
        raise InvalidNumber(most)
    return _first_decisions(program, sign_bit(width), words, most)


def count_fitting(program, width, log):
    """Return for how many words of a width the run fits a log."""
    check_width(width)
    rankings = rankings_at(program.inputs, width)
    return sum([count_words(ranking, width) for ranking in rankings if _fits(program, ranking, log)])


def relations(program, log, first, second):
    """Return the outcomes that two inputs have for words of some width whose run fits a log."""
    for number in (first, second):
        if number < 0 or number >= program.inputs:
            raise InvalidNumber(number)
    fitting = [ranking for ranking in all_rankings(program.inputs) if _fits(program, ranking, log)]
    return ordered_outcomes([outcome_between(ranking, first, second) for ranking in fitting])


def next_decisions(program, log):
    """Return those of `taken`, `passed`, `none` that come next in some run that fits a log."""
    fitting = [ranking for ranking in all_rankings(program.inputs) if _fits(program, ranking, log)]
    found = {_decision_behind(program, ranking, len(log)) for ranking in fitting}
    return tuple([word for word in ("taken", "passed", "none") if word in found])


def _first_decisions(program, cut, values, most):
    rows = program.placed
    states, last, ending = walk(rows, cut, values)
    made = _decisions_in(rows, states)
    again = _decisions_in(rows, states[states.index(last):]) if ending == "endless" else []
    while again and len(made) < most:
        made = made + again
    return made[:most]


def _decisions_in(rows, states):
    """Return whether each `jif` row that is done in some states jumps."""
    return [flag in rows[row][1] for row, _, flag in states if rows[row][0] == "jif"]


def _fits(program, ranking, log):
    """Return whether the run of the words with a ranking fits a log."""
    made = _ranked_decisions(program, ranking, len(log))
    return len(made) == len(log) and all([known is None or known == jumped for known, jumped in zip(log, made)])


def _decision_behind(program, ranking, many):
    """Return what comes behind so many decisions of a run."""
    made = _ranked_decisions(program, ranking, many + 1)
    if len(made) == many:
        return "none"
    return "taken" if made[many] else "passed"


def _ranked_decisions(program, ranking, most):
    ranks, cut = ranking
    return _first_decisions(program, cut, ranks, most)
