"""Tables: what programs do for each ranking, programs that do what a table tells, and questions that part programs."""

from branchorders.errors import InvalidNumber, InvalidTable, UnlikeInputs
from branchorders.outcomes import CONDITIONS
from branchorders.programs import Program, register_names
from branchorders.rankings import all_rankings, least_words, outcome_between, rankings_at
from branchorders.runs import behaviour
from branchorders.words import check_width

MOST_TABLE_INPUTS = 3

MOST_OUTS = 4

# Of any two outcomes, one of these is true for one and not for the other one.
PARTING_CONDITIONS = ("e", "mixed", "l")


def table_of(program):
    """Return the list of all rankings in order, each with the behaviour by inputs."""
    return [(ranking, behaviour(program, ranking)) for ranking in all_rankings(program.inputs)]


def check_table(inputs, table):
    """Raise InvalidNumber for a wrong number of inputs, InvalidTable for what no program can do."""
    if inputs < 1 or inputs > MOST_TABLE_INPUTS:
        raise InvalidNumber(inputs)
    rankings = all_rankings(inputs)
    if len(table) != len(rankings):
        raise InvalidTable(None)
    for index, told in enumerate(table):
        if len(told) > MOST_OUTS or any([number < 0 or number >= inputs for number in told]):
            raise InvalidTable(index)
    for index, (ranks, cut) in enumerate(rankings):
        # The ranking with the same ranks and the cut 0 stands so many places before.
        if cut == max(ranks) + 1 and _ranks_told(ranks, table[index]) != _ranks_told(ranks, table[index - cut]):
            raise InvalidTable(index)


def program_of(inputs, table):
    """Return a program that stops and puts out, for words with a ranking, the words of the inputs in a table."""
    check_table(inputs, table)
    return Program(inputs, _rows_for(list(zip(all_rankings(inputs), table)), 0, None))


def best_question(programs, width):
    """Return the first words for which the greatest group of programs with equal behaviours is as small as can be."""
    if len(programs) == 0:
        raise InvalidNumber(0)
    inputs = programs[0].inputs
    for index, program in enumerate(programs):
        if program.inputs != inputs:
            raise UnlikeInputs(index)
    check_width(width)
    rankings = rankings_at(inputs, width)
    _, words = min([(_greatest_group(programs, ranking), least_words(ranking, width)) for ranking in rankings])
    return words


def _ranks_told(ranks, told):
    """Return the ranks of some inputs: equal ones stand for equal words."""
    return [ranks[number] for number in told]


def _greatest_group(programs, ranking):
    behaviours = [behaviour(program, ranking) for program in programs]
    return max([behaviours.count(one) for one in behaviours])


def _rows_for(cases, start, compared):
    """Return rows, to stand from a row on, that do what some cases tell.

    A case is a tuple of a ranking and the inputs whose words are put out. The pair of inputs that was compared last
    is not compared again.
    """
    (first_ranks, _), told = cases[0]
    names = register_names(len(first_ranks))
    if all([_ranks_told(ranks, other) == _ranks_told(ranks, told) for (ranks, _), other in cases]):
        return [("out", names[number]) for number in told] + [("stop",)]
    pair, condition = _parting_test(cases)
    first, second = pair
    compare = [] if pair == compared else [("cmp", names[first], names[second])]
    behind = start + len(compare) + 1
    passing = _rows_for([case for case in cases if not _holds(case, pair, condition)], behind, pair)
    jumping = _rows_for([case for case in cases if _holds(case, pair, condition)], behind + len(passing), pair)
    return compare + [("jif", condition, behind + len(passing))] + passing + jumping


def _parting_test(cases):
    """Return the first pair of inputs, and with it the first condition, that is true in some of the cases only."""
    items = range(len(cases[0][0][0]))
    tests = [((i, j), condition) for i in items for j in items if i < j for condition in PARTING_CONDITIONS]
    for pair, condition in tests:
        if len({_holds(case, pair, condition) for case in cases}) == 2:
            return (pair, condition)
    return None


def _holds(case, pair, condition):
    ranking, _ = case
    return outcome_between(ranking, *pair) in CONDITIONS[condition]
