"""Counting: how many words take a path, which ones they are, and how many steps their runs have on average."""

from math import comb, gcd

from branchorders.errors import InvalidNumber, InvalidQuery
from branchorders.facts import comes_to
from branchorders.rankings import all_rankings, count_words, rankings_at
from branchorders.runs import behaviour
from branchorders.walks import ranked_walk
from branchorders.words import check_width, sign_bit

# The words of the queries, each with the number of items of such a tuple.
QUERY_SHAPES = (("all", 1), ("end", 2), ("reach", 2), ("steps", 3), ("first", 2))

ENDINGS = ("stop", "fault", "endless")


def check_query(program, query):
    """Raise InvalidQuery for a tuple that is no query about a program."""
    if not _is_query(program, query):
        raise InvalidQuery(query)


def count_inputs(program, width, query):
    """Return for how many words of a width a query is true."""
    check_width(width)
    check_query(program, query)
    return _count_all(_rankings_with(program, width, query), width)


def nth_input(program, width, query, number):
    """Return the words with a number among those for which a query is true, in the order of tuples."""
    check_width(width)
    check_query(program, query)
    rankings = _rankings_with(program, width, query)
    if number < 0 or number >= _count_all(rankings, width):
        raise InvalidNumber(number)
    words = ()
    for _ in range(program.inputs):
        word, number, rankings = _next_word(rankings, width, words, number)
        words = words + (word,)
    return words


def average_steps(program, width):
    """Return the average number of steps over all words of a width as a fraction, or None if some run is endless."""
    check_width(width)
    rankings = rankings_at(program.inputs, width)
    return _average(program, [(ranking, count_words(ranking, width)) for ranking in rankings])


def average_limit(program):
    """Return the limit of the average numbers of steps as the width grows, or None if some run is endless."""
    # As the width grows, equal words become as rare as can be, and each sign as likely as the other one.
    return _average(program, [(ranking, _weight_in_limit(ranking)) for ranking in all_rankings(program.inputs)])


def _is_query(program, query):
    if (*query[:1], len(query)) not in QUERY_SHAPES:
        return False
    word, *items = query
    if word == "end":
        return items[0] in ENDINGS
    if any([type(item) is not int for item in items]):
        return False
    if word == "reach":
        return 0 <= items[0] <= len(program)
    return word != "first" or 0 <= items[0] < program.inputs


def _rankings_with(program, width, query):
    """Return the list of the rankings of words of a width for which a query is true."""
    return [ranking for ranking in rankings_at(program.inputs, width) if _is_true(program, ranking, query)]


def _is_true(program, ranking, query):
    """Return whether a query is true for the words with a ranking."""
    word, *items = query
    if word == "end":
        return ranked_walk(program, ranking)[2] == items[0]
    if word == "reach":
        return comes_to(program, ranking, items[0])
    if word == "steps":
        many = _steps_of(program, ranking)
        return many is not None and items[0] <= many <= items[1]
    if word == "first":
        return _puts_out_first(program, ranking, items[0])
    return True


def _steps_of(program, ranking):
    """Return the number of steps of the run of the words with a ranking, or None if it is endless."""
    states, _, ending = ranked_walk(program, ranking)
    return None if ending == "endless" else len(states)


def _puts_out_first(program, ranking, number):
    """Return whether the first output, if there is one, is the word of an input."""
    _, outs, ring = behaviour(program, ranking)
    ranks, _ = ranking
    told = outs + ring
    return len(told) > 0 and ranks[told[0]] == ranks[number]


def _average(program, weighted):
    """Return the average number of steps over rankings with weights, or None if the run of one of them is endless."""
    counted = [(_steps_of(program, ranking), weight) for ranking, weight in weighted]
    if any([many is None for many, _ in counted]):
        return None
    steps_in_all = sum([many * weight for many, weight in counted])
    weights = sum([weight for _, weight in counted])
    common = gcd(steps_in_all, weights)
    return (steps_in_all // common, weights // common)


def _weight_in_limit(ranking):
    """Return how often words of a very great width have a ranking, beside the other rankings."""
    ranks, cut = ranking
    return comb(len(ranks), cut) if len(set(ranks)) == len(ranks) else 0


def _count_all(rankings, width):
    return sum([count_words(ranking, width) for ranking in rankings])


def _next_word(rankings, width, words, number):
    """Return the word behind some words of the tuple with a number, and what is left of the number and the rankings.

    The number counts the tuples that begin with these words and have one of the rankings, in order.
    """
    places = [_place(ranking, width, words) for ranking in rankings]
    # The places of two rankings are the same or apart, as the words that are known bound them all.
    for region in sorted({place[:2] for place in places}):
        shapes = _shapes_in(region, places)
        many = _ways_up_to(region[1], region, shapes)
        if number < many:
            break
        number = number - many
    word = _least_word_beyond(number, region, shapes)
    number = number - _ways_up_to(word - 1, region, shapes)
    return (word, number, [ranking for ranking, place in zip(rankings, places) if place[:2] == region])


def _place(ranking, width, words):
    """Return (low, high, below, above, ways) for the word behind some words with which tuples with a ranking begin.

    It is one from low to high; so many other ones are to be chosen below and above it from low to high, and those
    elsewhere can be chosen in so many ways.
    """
    ranks, _ = ranking
    rank = ranks[len(words)]
    place = None
    ways = 1
    for (rank_below, word_below), (rank_above, word_above) in _gaps(ranking, width, words):
        if rank_below < rank < rank_above:
            place = (word_below + 1, word_above - 1, rank - rank_below - 1, rank_above - rank - 1)
        else:
            ways = ways * comb(word_above - word_below - 1, rank_above - rank_below - 1)
    if place is None:
        word = words[ranks.index(rank)]
        place = (word, word, 0, 0)
    return (*place, ways)


def _gaps(ranking, width, words):
    """Return the gaps between the words that are known, each as (rank, word) below and above it, those left out."""
    ranks, cut = ranking
    half = sign_bit(width)
    known = sorted({(rank, word) for rank, word in zip(ranks, words)})
    not_negative = [(-1, -1)] + [pair for pair in known if pair[0] < cut] + [(cut, half)]
    negative = [(cut - 1, half - 1)] + [pair for pair in known if pair[0] >= cut] + [(max(ranks) + 1, 2 * half)]
    return list(zip(not_negative, not_negative[1:])) + list(zip(negative, negative[1:]))


def _shapes_in(region, places):
    """Return a dict from the pairs (below, above) of the places in a region to their ways in all."""
    shapes = {}
    for low, high, below, above, ways in places:
        if (low, high) == region:
            shapes[below, above] = shapes.get((below, above), 0) + ways
    return shapes


def _ways_up_to(word, region, shapes):
    """Return in how many ways the next word can be one of a region that is not greater than a word."""
    low, high = region
    counts = [ways * _ways_by_shape(word - low + 1, high - word, shape) for shape, ways in shapes.items()]
    return sum(counts)


def _ways_by_shape(up_to, beyond, shape):
    """Return in how many ways a word with so many below and above it is among the first ones of a region."""
    below, above = shape
    chosen = below + 1 + above
    # It is among them if not only those below it are.
    return sum([comb(up_to, many) * comb(beyond, chosen - many) for many in range(below + 1, chosen + 1)])


def _least_word_beyond(number, region, shapes):
    """Return the least word of a region up to which there are more ways than a number."""
    least, greatest = region
    while least < greatest:
        middle = (least + greatest) // 2
        if _ways_up_to(middle, region, shapes) > number:
            greatest = middle
        else:
            least = middle + 1
    return least
