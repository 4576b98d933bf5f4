"""Outcomes of two words, and the conditions that are true for some of them."""

from branchorders.errors import InvalidCondition, InvalidOutcome

OUTCOMES = ("E", "LB", "GA", "GB", "LA")

CONDITIONS = {
    "e": ("E",),
    "ne": ("LB", "GA", "GB", "LA"),
    "l": ("LB", "LA"),
    "le": ("E", "LB", "LA"),
    "g": ("GA", "GB"),
    "ge": ("E", "GA", "GB"),
    "b": ("LB", "GB"),
    "be": ("E", "LB", "GB"),
    "a": ("GA", "LA"),
    "ae": ("E", "GA", "LA"),
    "same": ("E", "LB", "GA"),
    "mixed": ("GB", "LA"),
}

# The conditions that a table leaves out stay as they are.
EXCHANGED = {"l": "b", "le": "be", "g": "a", "ge": "ae", "b": "l", "be": "le", "a": "g", "ae": "ge"}

REVERSED = {"l": "g", "le": "ge", "g": "l", "ge": "le", "b": "a", "be": "ae", "a": "b", "ae": "be"}


def check_outcome(outcome):
    """Raise InvalidOutcome for a string that is no outcome."""
    if outcome not in OUTCOMES:
        raise InvalidOutcome(outcome)


def check_condition(condition):
    """Raise InvalidCondition for a string that is no condition."""
    if condition not in CONDITIONS:
        raise InvalidCondition(condition)


def ordered_outcomes(outcomes):
    """Return the outcomes in their usual order, each of them once."""
    for outcome in outcomes:
        check_outcome(outcome)
    return tuple([outcome for outcome in OUTCOMES if outcome in outcomes])


def outcomes_of(condition):
    """Return the outcomes for which a condition is true."""
    check_condition(condition)
    return CONDITIONS[condition]


def condition_of(outcomes):
    """Return the condition that is true for exactly these outcomes, or None."""
    wanted = ordered_outcomes(outcomes)
    for condition, held in CONDITIONS.items():
        if held == wanted:
            return condition
    return None


def composed(first, second):
    """Return the outcomes of a and c that are possible, by those of a and b and of b and c."""
    check_outcome(first)
    check_outcome(second)
    if first == "E":
        return (second,)
    if second == "E":
        return (first,)
    first_mixed = first in CONDITIONS["mixed"]
    second_mixed = second in CONDITIONS["mixed"]
    if first_mixed != second_mixed:
        # The signs of a and c are different, and only the mixed step tells which one is negative.
        return (first,) if first_mixed else (second,)
    if first != second:
        return CONDITIONS["same"]
    # Twice the same change of the sign would need a b that is negative and is not.
    return () if first_mixed else (first,)


def exchanged(condition):
    """Return the condition with signed and unsigned order exchanged."""
    check_condition(condition)
    return EXCHANGED.get(condition, condition)


def reversed_condition(condition):
    """Return the condition with both orders reversed."""
    check_condition(condition)
    return REVERSED.get(condition, condition)


def shortest_chain(outcomes):
    """Return a chain with the fewest rules that answers True for exactly these outcomes."""
    wanted = ordered_outcomes(outcomes)
    # A new rule stands before the others, so what a longer chain answers follows from the shorter one's answers.
    chains = {(): ((), False), OUTCOMES: ((), True)}
    newest = [(), OUTCOMES]
    while wanted not in chains:
        attempts = [(held, rule) for held in newest for rule in _all_rules()]
        newest = []
        for held, rule in attempts:
            reached = _with_rule(held, rule)
            if reached not in chains:
                rules, last = chains[held]
                chains[reached] = ((rule,) + rules, last)
                newest.append(reached)
    return chains[wanted]


def _all_rules():
    return [(condition, answer) for condition in CONDITIONS for answer in (True, False)]


def _with_rule(held, rule):
    condition, answer = rule
    decided = CONDITIONS[condition]
    return tuple([outcome for outcome in OUTCOMES if (answer if outcome in decided else outcome in held)])
