"""Given writers, and whether they are faithful at doors."""

from sealedslots.errors import InvalidWriter, NotMember, Unfaithful
from sealedslots.readers import check_word, is_sign, is_word
from sealedslots.runs import Runs, least_failing
from sealedslots.search import reached
from sealedslots.values import check_state, is_below

MAX_STATES = 8
MAX_WORD = 24
MAX_MOVE_WORD = 4


def _is_short_word(value, most):
    """Whether the value is a word of at most so many signs."""
    return is_word(value) and len(value) <= most


def _is_move(key, value, many):
    """Whether the key is (state, sign), and the value (state, word), of moves of a writer with so many states."""
    if not isinstance(key, tuple) or not isinstance(value, tuple) or len(key) != 2 or len(value) != 2:
        return False
    if not is_below(key[0], many) or not is_sign(key[1]):
        return False
    return is_below(value[0], many) and _is_short_word(value[1], MAX_MOVE_WORD)


class GivenWriter:
    """A machine that writes a word for each sign of a text, and one ahead of and one behind all."""

    def __init__(self, opening, moves, endings, *, states=1):
        if not is_below(states, MAX_STATES + 1) or states == 0:
            raise InvalidWriter("states", None)
        if not _is_short_word(opening, MAX_WORD):
            raise InvalidWriter("opening", None)
        if not isinstance(moves, dict):
            raise InvalidWriter("moves", None)
        for key, move in moves.items():
            if not _is_move(key, move, states):
                raise InvalidWriter("move", key)
        if not isinstance(endings, dict):
            raise InvalidWriter("endings", None)
        for key, ending in endings.items():
            if not is_below(key, states) or not _is_short_word(ending, MAX_WORD):
                raise InvalidWriter("ending", key)
        self._states = tuple(range(states))
        self._opening = opening
        self._moves = {key: moves[key] for key in moves}
        self._endings = {key: endings[key] for key in endings}

    @classmethod
    def raw(cls, signs):
        """Return the writer that writes each of the signs as the sign itself."""
        check_word(signs)
        return cls.table({sign: sign for sign in signs})

    @classmethod
    def table(cls, entries):
        """Return the writer with one state that writes each sign as the word to which the entries lead."""
        if not isinstance(entries, dict):
            raise InvalidWriter("moves", None)
        return cls("", {(0, sign): (0, word) for sign, word in entries.items()}, {0: ""})

    @property
    def opening(self):
        """The word ahead of all others."""
        return self._opening

    def move(self, state, sign):
        """Return (next state, word) of the state by the sign, None if there is no move."""
        check_state(state, len(self._states))
        return self._moves.get((state, sign))

    def ending(self, state):
        """Return the word behind a text that leads to the state, None if there is none."""
        check_state(state, len(self._states))
        return self._endings.get(state)

    def output(self, text):
        """Return what is written for the text, None if a move or the ending is missing."""
        check_word(text)
        words = [self._opening]
        state = 0
        for sign in text:
            move = self.move(state, sign)
            if move is None:
                return None
            state, word = move
            words.append(word)
        if state not in self._endings:
            return None
        return "".join(words) + self._endings[state]

    def quoted(self, x, y):
        """Return the writer with x ahead of its opening, and y behind each of its endings."""
        check_word(x)
        check_word(y)
        endings = {state: ending + y for state, ending in self._endings.items()}
        return GivenWriter(x + self._opening, self._moves, endings, states=len(self._states))

    def __len__(self):
        return len(self._states)

    def __eq__(self, other):
        if not isinstance(other, GivenWriter):
            return False
        if self._states != other._states or self._opening != other._opening:
            return False
        return self._moves == other._moves and self._endings == other._endings


def failure(door, writer, text):
    """Return why the writer fails for the text of the language, None if it does not."""
    check_word(text)
    if text not in door.language:
        raise NotMember(text)
    output = writer.output(text)
    if output is None:
        return ("output", _place_without_output(writer, text))
    return _failure_of_output(door, text, output)


def _place_without_output(writer, text):
    """Return the position of the first sign without a move, the length of the text if there is none."""
    state = 0
    for place, sign in enumerate(text):
        move = writer.move(state, sign)
        if move is None:
            return place
        state, _ = move
    return len(text)


def _failure_of_output(door, text, output):
    """Return why the output does not write the text into the states behind, None if it does."""
    state = door.state
    told_names = []
    for place, sign in enumerate(output):
        move = door.reader.move(state, sign)
        if move is None:
            return ("sign", place)
        state, told = move
        if told is not None:
            if not is_sign(told):
                return ("mark", place)
            told_names.append(told)
    if "".join(told_names) != text:
        return ("text", "".join(told_names))
    return None if state in door.behind else ("state", state)


def find_failing(door, writer):
    """Return the least text of the language that fails, None if there is none."""
    return least_failing(door, writer, door.language.signs)


def is_faithful(door, writer):
    """Whether no text of the language fails."""
    return find_failing(door, writer) is None


def check_faithful(door, writer):
    """Raise Unfaithful with the least text that fails, if there is one."""
    text = find_failing(door, writer)
    if text is not None:
        raise Unfaithful(text, failure(door, writer, text))


def faithful_runs(door, writer):
    """Return the list of all runs of a writer that is faithful at the door."""
    if door.language.is_empty:
        return []
    runs = Runs(door, writer, door.language.signs)
    return reached(runs.first(), lambda run: runs.ways(run))


def end_states(door, writer):
    """Return the set of the states in which the outputs for the texts of the language end."""
    check_faithful(door, writer)
    runs = Runs(door, writer, door.language.signs)
    lasts = [runs.last(run) for run in faithful_runs(door, writer)]
    return tuple(sorted({last for last in lasts if last is not None}))
