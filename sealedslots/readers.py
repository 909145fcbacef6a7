"""Signs, marks, words, rows, and the readers that tell them apart."""

from sealedslots.errors import InvalidReader, InvalidRow, InvalidWord
from sealedslots.values import are_states, check_state, has_length, is_below

MAX_NAME = 8
MAX_PAGE_SIGNS = 6
MAX_TEXT_SIGNS = 4
MAX_MARKS = 6


def is_sign(value):
    """Whether the value is one character from a to z."""
    return is_word(value) and len(value) == 1


def is_mark(value):
    """Whether the value is a string of two to eight characters from a to z."""
    return is_name(value) and len(value) > 1


def is_word(value):
    """Whether the value is a string of signs, perhaps empty."""
    return isinstance(value, str) and all(["a" <= sign <= "z" for sign in value])


def is_row(value):
    """Whether the value is a tuple of signs and marks."""
    return isinstance(value, tuple) and all([is_name(told) for told in value])


def is_name(value):
    """Whether the value is a sign or a mark."""
    return is_word(value) and 1 <= len(value) <= MAX_NAME


def check_word(value):
    """Raise InvalidWord if the value is not a word."""
    if not is_word(value):
        raise InvalidWord(value)


def check_row(value):
    """Raise InvalidRow if the value is not a tuple of signs and marks."""
    if not is_row(value):
        raise InvalidRow(value)


def _is_move(value, many):
    """Whether the value is a move of a reader with so many states."""
    if not isinstance(value, tuple) or len(value) != 2:
        return False
    after, told = value
    return is_below(after, many) and (told is None or is_name(told))


def _is_reader_state(value, many):
    """Whether the value is a dict from signs to moves of a reader with so many states."""
    if not isinstance(value, dict):
        return False
    return all([is_sign(sign) and _is_move(move, many) for sign, move in value.items()])


def _copied_state(state):
    """Return a new dict with the same moves, by ascending signs."""
    return {sign: tuple(state[sign]) for sign in sorted(state)}


class Reader:
    """A machine that reads a page sign by sign and tells text signs and marks."""

    MAX_STATES = 12

    def __init__(self, states, ends=(), *, start=0):
        if not has_length(states, 1, self.MAX_STATES):
            raise InvalidReader("states", None)
        for index, state in enumerate(states):
            if not _is_reader_state(state, len(states)):
                raise InvalidReader("state", index)
        if not are_states(ends, len(states)):
            raise InvalidReader("ends", None)
        if not is_below(start, len(states)):
            raise InvalidReader("start", None)
        self._states = [_copied_state(state) for state in states]
        self._ends = tuple(sorted(ends))
        self._start = start
        self._collect_names()
        self._check_limits()

    def _collect_names(self):
        """Set the page signs, the text signs and the marks, which the moves alone determine."""
        self._page_signs = "".join(sorted({sign for state in self._states for sign in state}))
        told = sorted({told for state in self._states for _, told in state.values() if told is not None})
        self._text_signs = "".join([name for name in told if is_sign(name)])
        self._marks = [name for name in told if is_mark(name)]

    def _check_limits(self):
        """Raise the error for too many page signs, text signs or marks."""
        if len(self._page_signs) > MAX_PAGE_SIGNS:
            raise InvalidReader("signs", None)
        if len(self._text_signs) > MAX_TEXT_SIGNS:
            raise InvalidReader("texts", None)
        if len(self._marks) > MAX_MARKS:
            raise InvalidReader("marks", None)

    @classmethod
    def of(cls, *states, ends=(), start=0):
        """Return the reader with these dicts as its states."""
        return cls(states, ends, start=start)

    @property
    def start(self):
        """The start state."""
        return self._start

    def ends(self):
        """Return the sorted tuple of the end states."""
        return self._ends

    def move(self, state, sign):
        """Return the move (next state, told) of the state by the sign, None if there is none."""
        check_state(state, len(self._states))
        return self._states[state].get(sign)

    def moves(self, state):
        """Yield (sign, next state, told) for each move of the state, by ascending signs."""
        check_state(state, len(self._states))
        for sign, (after, told) in self._states[state].items():
            yield (sign, after, told)

    def page_signs(self):
        """Return the signs that have moves, in ascending order."""
        return self._page_signs

    def text_signs(self):
        """Return the signs that moves tell, in ascending order."""
        return self._text_signs

    def marks(self):
        """Return the sorted list of the marks that moves tell."""
        return list(self._marks)

    def __len__(self):
        return len(self._states)

    def __contains__(self, value):
        return is_below(value, len(self._states))

    def __eq__(self, other):
        if not isinstance(other, Reader):
            return False
        return self._states == other._states and self._ends == other._ends and self._start == other._start

    def __repr__(self):
        return f"Reader({self._states!r}, {self._ends!r}, start={self._start})"
