"""Sessions: runs that are watched, step by step."""

from branchorders.errors import InvalidNumber, InvalidRegister, InvalidRow, InvalidWords, NothingToUndo
from branchorders.programs import Program, register_names
from branchorders.readings import read_program, read_words
from branchorders.runs import check_input
from branchorders.walks import ending_at, first_state, state_behind, with_value
from branchorders.words import check_width, is_word, sign_bit


class Session:
    """A run of a program, which goes on by steps, can be changed and can be taken back."""

    def __init__(self, program, width, words):
        check_width(width)
        check_input(program, width, words)
        self._program = Program(program.inputs, program.rows)
        self._width = width
        self._state = first_state(words)
        # The state has no row behind a `stop`, so the row that is shown is kept beside it.
        self._row = 0
        self._outs = []
        self._decisions = []
        self._breaks = ()
        self._earlier = []

    @classmethod
    def of_texts(cls, program_text, width, words_text):
        """Return the session of a program and words that are given by their texts."""
        program = read_program(program_text)
        check_width(width)
        return cls(program, width, read_words(words_text))

    @property
    def present_row(self):
        """The row that comes next; the number of rows at the end, the row itself at a `stop` or fault."""
        return self._row

    @property
    def flag(self):
        """The flag, or None if it is not set."""
        return self._state[2]

    @property
    def registers(self):
        """A new dict from the names of the registers to their words."""
        return dict(zip(register_names(self._program.inputs), self._state[1]))

    @property
    def outs(self):
        """A new list of the outputs so far."""
        return list(self._outs)

    @property
    def is_over(self):
        """Whether the run has stopped or faulted."""
        return ending_at(self._program.placed, self._state) is not None

    def __eq__(self, other):
        return (isinstance(other, Session) and self._program == other._program and self._width == other._width
                and self._row == other._row and self._state == other._state and self._outs == other._outs)

    def step(self, count=1):
        """Do so many steps, fewer if the run is over before, and return how many were done."""
        if count < 0:
            raise InvalidNumber(count)
        self._remember()
        done = 0
        while done < count and not self.is_over:
            self._do_step()
            done += 1
        return done

    def go(self):
        """Do steps until the run is over, comes to a break or turns out to be endless, and return which it was."""
        self._remember()
        passed = set()
        while not self.is_over:
            passed.add(self._state)
            self._do_step()
            if self._row in self._breaks and not self.is_over:
                return "break"
            if self._state in passed:
                return "endless"
        return "over"

    def break_at(self, *rows):
        """Set the rows with a break in place of those before."""
        for row in rows:
            if row < 0 or row >= len(self._program):
                raise InvalidRow(row)
        self._remember()
        self._breaks = rows

    def poke(self, name, word):
        """Put a word into a register."""
        names = register_names(self._program.inputs)
        if name not in names:
            raise InvalidRegister(name)
        if not is_word(self._width, word):
            raise InvalidWords(None)
        self._remember()
        row, values, flag = self._state
        self._state = (row, with_value(values, names.index(name), word), flag)

    def undo(self):
        """Take back the last call of `step`, `go`, `break_at` or `poke`."""
        if len(self._earlier) == 0:
            raise NothingToUndo(0)
        self._row, self._state, many_outs, many_decisions, self._breaks = self._earlier.pop()
        self._outs = self._outs[:many_outs]
        self._decisions = self._decisions[:many_decisions]

    def log(self):
        """Yield whether the `jif` rows that were done so far jumped."""
        yield from self._decisions

    def _remember(self):
        """Keep what the next `undo` brings back."""
        self._earlier.append((self._row, self._state, len(self._outs), len(self._decisions), self._breaks))

    def _do_step(self):
        rows = self._program.placed
        row, values, flag = self._state
        word, *items = rows[row]
        if word == "out":
            self._outs.append(values[items[0]])
        elif word == "jif":
            self._decisions.append(flag in items[0])
        self._state = state_behind(rows, sign_bit(self._width), self._state)
        if self._state[0] is not None:
            self._row = self._state[0]
