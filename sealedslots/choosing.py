"""Safe places, and what writers choose among those that follow.

The safe places are a dict from (language state, held text) to sets of states, which are integers, as in `sets`.
"""

from sealedslots.holding import Holding, hold_behind
from sealedslots.sets import bits_of
from sealedslots.ways import lasts_by_words


def safe_holds(door, look_ahead):
    """Return the safe places, over all states of the reader, of a door for a look-ahead from 0 to 3."""
    return Holding(door.reader, door.language, look_ahead).safe(bits_of(door.behind))


def is_safe(safe, place):
    """Whether the place is one of the safe ones."""
    at, held, state = place
    return safe[(at, held)] >> state & 1 == 1


def is_start_safe(door, safe):
    """Whether the start place is safe, or the language has no texts: whether the door is written."""
    return door.language.is_empty or is_safe(safe, (0, "", door.state))


class Chooser:
    """What a writer of a door for a look-ahead from 0 to 3 chooses, sign by sign."""

    def __init__(self, door, look_ahead, safe):
        self._door = door
        self._look_ahead = look_ahead
        self._safe = safe
        self._lasts = {}

    def next_place(self, place, sign):
        """Return (sign to be written, or None; place) behind a safe place by a sign that leads to a live state."""
        at, held, state = place
        written, (after, rest) = hold_behind(self._door.language, self._look_ahead, (at, held), sign)
        if written is None:
            return (None, (after, rest, state))
        places = [(after, rest, last) for last in self._lasts_of(state, written)]
        return (written, [behind for behind in places if is_safe(self._safe, behind)][0])

    def _lasts_of(self, state, sign):
        """Return the last states of the sign from the state, in the order of the least words that lead to them."""
        key = (state, sign)
        if key not in self._lasts:
            self._lasts[key] = lasts_by_words(self._door.reader, state, sign)
        return self._lasts[key]
