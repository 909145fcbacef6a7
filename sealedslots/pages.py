"""Pages: how a reader reads them, the least ones, and the states that matter for them."""

from sealedslots.errors import Unreadable
from sealedslots.readers import Reader, check_row, check_word
from sealedslots.search import leading_into, least_way, reached
from sealedslots.values import check_state
from sealedslots.ways import least_told


def passed(reader, state, word):
    """Return (row, last state) of the word from the state, None if it does not pass."""
    check_state(state, len(reader))
    check_word(word)
    walk = _walk(reader, state, word)
    if len(walk) < len(word):
        return None
    return (_row(walk), _last_state(state, walk))


def reading(reader, page):
    """Return the row that the page is read as; raise Unreadable with the place where it fails."""
    check_word(page)
    walk = _walk(reader, reader.start, page)
    if len(walk) < len(page) or _last_state(reader.start, walk) not in reader.ends():
        raise Unreadable(len(walk))
    return _row(walk)


def steps(reader, page):
    """Yield (state behind it, told) for each sign of the page, until a sign has no move."""
    check_word(page)
    for step in _walk(reader, reader.start, page):
        yield step


def _walk(reader, state, word):
    """Return the list of the moves of the signs of the word in turn, up to the first sign without one."""
    walk = []
    for sign in word:
        move = reader.move(state, sign)
        if move is None:
            return walk
        walk.append(move)
        state, _ = move
    return walk


def _row(walk):
    """Return what the moves tell."""
    return tuple([told for _, told in walk if told is not None])


def _last_state(first, walk):
    """Return the state behind the moves from the first state."""
    if not walk:
        return first
    last, _ = walk[-1]
    return last


def least_page(reader, row):
    """Return the least page whose reading is the row, None if there is none."""
    check_row(row)
    return least_told(reader, reader.start, row, reader.ends())


def shortest_page(reader):
    """Return the least page that has a reading, None if there is none."""
    ends = reader.ends()
    return least_way(reader.start, lambda state: _reader_leads(reader, state), lambda node: node in ends)


def _reader_leads(reader, state):
    """Return (sign, next state) for each move of the state."""
    return [(sign, after) for sign, after, _ in reader.moves(state)]


def ending_states(reader):
    """Return the sorted list of the states that can end: from which some word passes to an end."""
    return leading_into(reader.ends(), len(reader), lambda state: _reader_leads(reader, state))


def useful_states(reader):
    """Return the sorted tuple of the useful states."""
    met = reached(reader.start, lambda state: _reader_leads(reader, state))
    ending = ending_states(reader)
    return tuple(sorted([state for state in met if state in ending or state == reader.start]))


def trimmed(reader):
    """Return the reader that has only the useful states, and the tuple of their former numbers."""
    kept = useful_states(reader)
    numbers = {state: number for number, state in enumerate(kept)}
    states = [_moves_within(reader, state, numbers) for state in kept]
    ends = [numbers[state] for state in reader.ends() if state in numbers]
    return (Reader(states, ends, start=numbers[reader.start]), kept)


def _moves_within(reader, state, numbers):
    """Return the moves of the state to numbered states, as a dict with the new numbers."""
    return {sign: (numbers[after], told) for sign, after, told in reader.moves(state) if after in numbers}
