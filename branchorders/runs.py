"""Runs: what programs do with words."""

from branchorders.errors import InvalidNumber, InvalidRanking, InvalidWords
from branchorders.rankings import check_ranking
from branchorders.walks import walk
from branchorders.words import check_width, check_words, sign_bit


def check_input(program, width, words):
    """Raise InvalidWords if there are not as many words as inputs, or for the first integer that is no word."""
    if len(words) != program.inputs:
        raise InvalidWords(None)
    check_words(width, words)


def run(program, width, words):
    """Return the behaviour of a run, by words."""
    check_width(width)
    check_input(program, width, words)
    return _behaviour_of(program, sign_bit(width), words)


def count_steps(program, width, words):
    """Return the number of steps of a run, or None if it is endless."""
    check_width(width)
    check_input(program, width, words)
    states, _, ending = walk(program.placed, sign_bit(width), words)
    return None if ending == "endless" else len(states)


def nth_out(program, width, words, number):
    """Return the output with a number, or None if there are not so many."""
    _, outs, ring = run(program, width, words)
    if number < 0:
        raise InvalidNumber(number)
    if number < len(outs):
        return outs[number]
    return ring[(number - len(outs)) % len(ring)] if ring else None


def steps(program, width, words):
    """Yield the row of each step with the flag behind it, up to the end or until a state has come again."""
    check_width(width)
    check_input(program, width, words)
    states, last, _ = walk(program.placed, sign_bit(width), words)
    for state, behind in zip(states, states[1:] + [last]):
        yield (state[0], behind[2])


def behaviour(program, ranking):
    """Return the behaviour by inputs for the words with a ranking."""
    check_ranking(ranking)
    ranks, cut = ranking
    if len(ranks) != program.inputs:
        raise InvalidRanking(ranking)
    ending, outs, ring = _behaviour_of(program, cut, ranks)
    return (ending, tuple([ranks.index(rank) for rank in outs]), tuple([ranks.index(rank) for rank in ring]))


def _behaviour_of(program, cut, values):
    rows = program.placed
    states, last, ending = walk(rows, cut, values)
    if ending != "endless":
        return (ending, _outputs(rows, states), ())
    again = states.index(last)
    outs, ring = _shortened(_outputs(rows, states[:again]), _outputs(rows, states[again:]))
    return (ending, outs, ring)


def _outputs(rows, states):
    """Return what is put out by the steps that are done in some states."""
    return tuple([values[rows[row][1]] for row, values, _ in states if rows[row][0] == "out"])


def _shortened(outs, ring):
    """Return outs and ring, made as short as they can be."""
    if not ring:
        return (outs, ring)
    ring = _part_that_repeats(ring)
    # An output that is the last one of the ring turned so far may as well begin the ring.
    turned = 0
    while turned < len(outs) and outs[-1 - turned] == ring[-1 - turned % len(ring)]:
        turned += 1
    start = (-turned) % len(ring)
    return (outs[:len(outs) - turned], ring[start:] + ring[:start])


def _part_that_repeats(ring):
    """Return the shortest part of which a ring is one or more copies."""
    for size in range(1, len(ring)):
        if len(ring) % size == 0 and ring == ring[:size] * (len(ring) // size):
            return ring[:size]
    return ring
