"""The document's rankings, knowledge and runs once more, by words and as plainly as can be, and drawn inputs."""

import functools
import itertools

from branchorders.programs import Program
from helpers import MEANINGS, OUTCOMES, all_words, outcome_of, signed_of

HOLDS = dict(MEANINGS)

INPUT_NAMES = ("p", "q", "r", "s")

# Widths with enough words of both signs for all rankings, by the number of items.
ENOUGH = {1: 1, 2: 2, 3: 3, 4: 3}


def ranking_by_words(width, words):
    """The ranking by the words of the document."""
    ranks = tuple(len({other for other in words if other < word}) for word in words)
    return (ranks, len({word for word in words if signed_of(width, word) >= 0}))


def rankings_by_definition(items):
    """All rankings of so many items, in the order of tuples."""
    found = []
    for ranks in itertools.product(range(items), repeat=items):
        for many in range(1, items + 1):
            if set(ranks) == set(range(many)):
                found.extend((ranks, cut) for cut in range(many + 1))
    return sorted(found)


def tuples_of_words(width, items):
    """All tuples of so many words, in their order."""
    return list(itertools.product(all_words(width), repeat=items))


def outcomes_by_items(width, words):
    """A dict from the pairs of numbers of items to the outcomes of the words."""
    numbers = range(len(words))
    return {(i, j): outcome_of(width, words[i], words[j]) for i in numbers for j in numbers}


def fulfils(outcomes, knowledge):
    return all(outcomes[i, j] in allowed for i, j, allowed in knowledge)


def drawn_knowledge(random, items, many):
    """So many tuples, with outcomes several times, in any order, or none."""
    found = []
    while items > 1 and len(found) < many:
        first, second = random.sample(range(items), 2)
        found.append((first, second, tuple(random.choices(OUTCOMES, k=random.choice((0, 1, 2, 2, 3, 3, 4, 6))))))
    return found


def names_for(inputs):
    return INPUT_NAMES[:inputs] + ("x", "y")


class Model:
    """A run by the words of the document, done as far as it goes, or until a state comes again.

    `trace` has the row of each step and the flag behind it, `visits` the rows to which the run came with the registers
    and the flag there, `outs` the outputs, `jumps` whether each `jif` jumped; `outs_before` and `jumps_before` tell
    how many of these came before the state that came again.
    """

    def __init__(self, program, width, words):
        self.rows, self.width = program.rows, width
        names = names_for(program.inputs)
        self.registers = dict(zip(names, words + (words[0], words[0])))
        self.row, self.flag, self.ending = 0, None, None
        self.trace, self.visits, self.outs, self.jumps = [], [], [], []
        told_at = {}
        while self.ending is None:
            state = (self.row, tuple(self.registers[name] for name in names), self.flag)
            if state in told_at:
                self.ending = "endless"
                self.outs_before, self.jumps_before = told_at[state]
            else:
                told_at[state] = (len(self.outs), len(self.jumps))
                self.do_row()

    def do_row(self):
        row = self.row
        self.visits.append((row, dict(self.registers), self.flag))
        if row == len(self.rows):
            self.ending = "stop"
            return
        word, *items = self.rows[row]
        if word in ("cmov", "jif") and self.flag is None:
            self.ending = "fault"
            return
        self.row += 1
        getattr(self, "do_" + word)(*items)
        self.trace.append((row, self.flag))

    def do_cmp(self, first, second):
        self.flag = outcome_of(self.width, self.registers[first], self.registers[second])

    def do_mov(self, to, source):
        self.registers[to] = self.registers[source]

    def do_swap(self, first, second):
        self.registers[first], self.registers[second] = self.registers[second], self.registers[first]

    def do_cmov(self, condition, to, source):
        if self.flag in HOLDS[condition]:
            self.do_mov(to, source)

    def do_jump(self, target):
        self.row = target

    def do_jif(self, condition, target):
        self.jumps.append(self.flag in HOLDS[condition])
        if self.jumps[-1]:
            self.row = target

    def do_out(self, name):
        self.outs.append(self.registers[name])

    def do_stop(self):
        self.ending = "stop"

    def rows_reached(self):
        return {row for row, _, _ in self.visits}

    def decisions(self, most):
        """The first decisions; a run that is endless goes on with those behind the state that came again."""
        made = self.jumps[:]
        if self.ending == "endless" and len(made) > self.jumps_before:
            while len(made) < most:
                made += self.jumps[self.jumps_before:]
        return made[:most]

    def behaviour(self):
        if self.ending != "endless" or self.outs_before == len(self.outs):
            return (self.ending, tuple(self.outs), ())
        before, ring = self.outs[:self.outs_before], self.outs[self.outs_before:]
        return (self.ending, *shortest_parts(before, ring))


def shortest_parts(before, ring):
    """Of all ways to put out the same for ever, that with the fewest words before the ring, then in the ring."""
    told = before + ring * 3
    for start in range(len(before) + 1):
        for size in range(1, len(ring) + 1):
            if all(told[place] == told[place + size] for place in range(start, len(told) - size)):
                return (tuple(told[:start]), tuple(told[start:start + size]))
    raise AssertionError("the whole ring comes again")


def drawn_row(random, names, many_rows):
    word = random.choice(("cmp", "cmp", "mov", "swap", "cmov", "jump", "jif", "jif", "out", "out", "stop"))
    name, other = random.choice(names), random.choice(names)
    condition, target = random.choice(list(HOLDS)), random.randint(0, many_rows)
    return {
        "cmp": (word, name, other), "mov": (word, name, other), "swap": (word, name, other),
        "cmov": (word, condition, name, other), "jump": (word, target), "jif": (word, condition, target),
        "out": (word, name), "stop": (word,),
    }[word]


def drawn_rows(random, inputs, many):
    return [drawn_row(random, names_for(inputs), many) for _ in range(many)]


def drawn_program(random, inputs, many):
    """A program of so many rows, at least one, that begins with a compare, as without one most runs fault."""
    names = names_for(inputs)
    return Program(inputs, [("cmp", random.choice(names), random.choice(names))] + drawn_rows(random, inputs, many)[1:])


@functools.lru_cache(maxsize=16)
def models_of_rows(inputs, rows, width):
    program = Program(inputs, list(rows))
    return [(words, Model(program, width, words)) for words in tuples_of_words(width, inputs)]


def models_at(program, width):
    """All words of a width in order, each with the model of its run."""
    return models_of_rows(program.inputs, tuple(program.rows), width)


def least_tuples(width, items):
    """Tuples of words in order, among which are the first words of each ranking."""
    half = 2 ** (width - 1)
    near = sorted({start + step for start in (0, half) for step in range(min(items, half))})
    return list(itertools.product(near, repeat=items))
