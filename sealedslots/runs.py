"""How given writers write the texts of a door, sign by sign.

A run is a tuple (language state, writer state, state of the reader, owed, ahead): where a text leads, the signs of it
that are not told yet, and those that are told but have not arrived. It is (language state, None, None, "", "") if the
writer fails whatever follows.
"""

from sealedslots.languages import live_leads
from sealedslots.readers import is_sign
from sealedslots.search import FirstTwo, least_way


def told_signs(reader, state, word):
    """Return (what is told, last state) of the word, None if it does not pass or tells a mark."""
    told_names = []
    for sign in word:
        move = reader.move(state, sign)
        if move is None:
            return None
        state, told = move
        if told is not None:
            if not is_sign(told):
                return None
            told_names.append(told)
    return ("".join(told_names), state)


def _broken(at):
    """Return the run at the language state for a writer that fails whatever follows."""
    return (at, None, None, "", "")


def _lag_of(arrived, told):
    """Return (owed, ahead) if one of the words begins with the other, otherwise None."""
    if arrived.startswith(told):
        return (arrived[len(told):], "")
    if told.startswith(arrived):
        return ("", told[len(arrived):])
    return None


class Runs:
    """The runs of a writer at a door for the texts of the language that consist of some signs; it has texts."""

    def __init__(self, door, writer, signs):
        self._door = door
        self._writer = writer
        self._signs = signs
        self._lags = FirstTwo()

    def first(self):
        """Return the run of the empty text."""
        return self._behind(0, 0, self._door.state, self._writer.opening, "", "")

    def ways(self, run):
        """Return (sign, run) for each of the signs that leads to a live language state."""
        at, here, state, owed, ahead = run
        found = []
        for sign, after in live_leads(self._door.language, at):
            if sign in self._signs:
                move = None if here is None else self._writer.move(here, sign)
                if move is None:
                    found.append((sign, _broken(after)))
                else:
                    found.append((sign, self._behind(after, move[0], state, move[1], owed + sign, ahead)))
        return found

    def leads(self, run):
        """Return those of the ways that may lead to the least text that fails, if the runs are met in sequence."""
        # Of two lags at the same states, one at least fails for each text that goes on from there. So a third one is
        # never needed: a lesser text fails whenever it does. Otherwise there could be runs without end.
        return [(sign, after) for sign, after in self.ways(run) if self._lags.has(after[:3], after[3:])]

    def last(self, run):
        """Return the last state of the output if the text ends here, None if it fails or is none of the language."""
        at, here, state, owed, ahead = run
        if here is None or not self._door.language.is_member(at):
            return None
        ending = self._writer.ending(here)
        found = None if ending is None else told_signs(self._door.reader, state, ending)
        if found is None or ahead + found[0] != owed or found[1] not in self._door.behind:
            return None
        return found[1]

    def is_failing(self, run):
        """Whether a text of the language ends here and fails."""
        return self._door.language.is_member(run[0]) and self.last(run) is None

    def _behind(self, at, here, state, word, arrived, ahead):
        """Return the run behind the word; arrived are the signs that were not told ahead of it."""
        found = told_signs(self._door.reader, state, word)
        lag = None if found is None else _lag_of(arrived, ahead + found[0])
        if lag is None:
            return _broken(at)
        return (at, here, found[1]) + lag


def least_failing(door, writer, signs):
    """Return the least text of the language that consists of these signs and fails, None if there is none."""
    if door.language.is_empty:
        return None
    runs = Runs(door, writer, signs)

    def leads(run):
        return runs.leads(run)

    return least_way(runs.first(), leads, lambda run: runs.is_failing(run))
