"""Doors: states of a reader, ahead of and behind the texts of a language."""

from sealedslots.readers import check_word
from sealedslots.sets import Sets, bits_of, states_of
from sealedslots.values import check_state, check_states


def silent(reader, states):
    """Return the states to which silent moves, perhaps none, lead from the states."""
    check_states(states, len(reader))
    return states_of(Sets(reader).silent(bits_of(states)))


def step(reader, states, sign):
    """Return the states to which a move that tells the sign, and silent moves then, lead from the states."""
    check_states(states, len(reader))
    return states_of(Sets(reader).step(bits_of(states), sign))


def last_states(reader, state, text):
    """Return the states behind the words that write the text from the state."""
    check_state(state, len(reader))
    check_word(text)
    return states_of(Sets(reader).last(state, text))


class Door:
    """A reader, a state of it, the states behind, and the language of the texts that are to be written."""

    def __init__(self, reader, state, behind, language):
        check_state(state, len(reader))
        check_states(behind, len(reader))
        self._reader = reader
        self._state = state
        self._behind = tuple(sorted(behind))
        self._language = language

    @property
    def reader(self):
        """The reader."""
        return self._reader

    @property
    def state(self):
        """The state ahead of the texts."""
        return self._state

    @property
    def behind(self):
        """The sorted tuple of the states into which texts must lead."""
        return self._behind

    @property
    def language(self):
        """The language of the texts."""
        return self._language

    def __eq__(self, other):
        if not isinstance(other, Door):
            return False
        if self._reader != other._reader or self._language != other._language:
            return False
        return self._state == other._state and self._behind == other._behind


def is_writable(door, text):
    """Whether some word writes the text from the state of the door into the states behind."""
    check_word(text)
    return Sets(door.reader).last(door.state, text) & bits_of(door.behind) != 0
