"""Programs: rows of compares, moves and jumps for one to four inputs."""

from branchorders.errors import InvalidProgram, InvalidRow, UnlikeInputs
from branchorders.outcomes import CONDITIONS, EXCHANGED, REVERSED

INPUT_NAMES = ("p", "q", "r", "s")

OTHER_NAMES = ("x", "y")

# What stands behind the word of a row: R is a register, C a condition, T a target.
FORMS = {
    "cmp": "RR",
    "mov": "RR",
    "swap": "RR",
    "cmov": "CRR",
    "jump": "T",
    "jif": "CT",
    "out": "R",
    "stop": "",
}

# These rows end the run with a fault if the flag is not set.
FLAG_WORDS = ("cmov", "jif")


def register_names(inputs):
    """Return the names of the registers of a program with so many inputs."""
    return INPUT_NAMES[:inputs] + OTHER_NAMES


def parts_of(row):
    """Return the items behind the word of a row, each with what it is: a tuple like ("R", "p")."""
    return list(zip(FORMS[row[0]], row[1:]))


class Program:
    """A list of rows for a number of inputs, which never changes."""

    def __init__(self, inputs, rows):
        if inputs < 1 or inputs > len(INPUT_NAMES):
            raise InvalidProgram(None)
        names = register_names(inputs)
        for index, row in enumerate(rows):
            if not _is_row(row, names, len(rows)):
                raise InvalidProgram(index)
        self._inputs = inputs
        self._rows = list(rows)
        self._placed = tuple([_placed_row(row, names) for row in rows])

    @property
    def inputs(self):
        """The number of inputs."""
        return self._inputs

    @property
    def rows(self):
        """A new list of the rows."""
        return list(self._rows)

    @property
    def placed(self):
        """The rows with the places of registers in place of their names, and with outcomes in place of conditions."""
        return self._placed

    def __len__(self):
        return len(self._rows)

    def __eq__(self, other):
        return isinstance(other, Program) and self._inputs == other._inputs and self._rows == other._rows

    def __add__(self, other):
        if self._inputs != other._inputs:
            raise UnlikeInputs(None)
        moved = [_with_moved_target(row, 0, len(self._rows)) for row in other._rows]
        return Program(self._inputs, self._rows + moved)

    def without(self, row):
        """Return the program without a row."""
        if row < 0 or row >= len(self._rows):
            raise InvalidRow(row)
        kept = self._rows[:row] + self._rows[row + 1:]
        return Program(self._inputs, [_with_moved_target(other, row + 1, -1) for other in kept])

    def exchanged(self):
        """Return the program with signed and unsigned conditions exchanged."""
        return self._with_conditions(dict(EXCHANGED))

    def mirrored(self):
        """Return the program with reversed conditions."""
        return self._with_conditions(dict(REVERSED))

    def _with_conditions(self, others):
        """Return the program in which a dict says what conditions stand in place of others."""
        return Program(self._inputs, [_with_condition(row, others) for row in self._rows])


def _is_row(row, names, many_rows):
    if len(row) == 0 or row[0] not in FORMS or len(row) != 1 + len(FORMS[row[0]]):
        return False
    return all([_is_item(kind, item, names, many_rows) for kind, item in parts_of(row)])


def _is_item(kind, item, names, many_rows):
    if kind == "R":
        return item in names
    if kind == "C":
        return item in CONDITIONS
    return type(item) is int and 0 <= item <= many_rows


def _placed_row(row, names):
    placed = [_placed_item(kind, item, names) for kind, item in parts_of(row)]
    return (row[0], *placed)


def _placed_item(kind, item, names):
    if kind == "R":
        return names.index(item)
    return CONDITIONS[item] if kind == "C" else item


def _with_moved_target(row, least, by):
    """Return a row in which a target is greater by a number, if it is not less than the least one."""
    moved = [item + by if kind == "T" and item >= least else item for kind, item in parts_of(row)]
    return (row[0], *moved)


def _with_condition(row, others):
    """Return a row in which a condition is the other one that a dict has for it, if it has one."""
    changed = [others.get(item, item) if kind == "C" else item for kind, item in parts_of(row)]
    return (row[0], *changed)
