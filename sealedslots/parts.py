"""Parts of templates: their forms, what they tell, and the words that fit pieces and said parts."""

from sealedslots.languages import Language
from sealedslots.readers import is_mark, is_name, is_sign

MAX_PARTS = 12
MAX_PIECE_MOVES = 12
MAX_SAID_MARKS = 6


def is_part(value):
    """Whether the value is a part by its form."""
    return _is_piece(value) or _is_said(value) or _is_slot(value)


def _is_kind(value, kind, many):
    """Whether the value is a tuple of so many items that begins with the word for the kind."""
    return isinstance(value, tuple) and len(value) == many and isinstance(value[0], str) and value[0] == kind


def _is_piece(value):
    """Whether the value is a piece."""
    if not _is_kind(value, "piece", 2):
        return False
    return _is_short_tuple(value[1], MAX_PIECE_MOVES) and all([_is_piece_move(move) for move in value[1]])


def _is_said(value):
    """Whether the value is a said part."""
    if not _is_kind(value, "said", 2):
        return False
    return _is_short_tuple(value[1], MAX_SAID_MARKS) and all([is_mark(mark) for mark in value[1]])


def _is_slot(value):
    """Whether the value is a slot."""
    return _is_kind(value, "slot", 3) and is_name(value[1]) and isinstance(value[2], Language)


def _is_short_tuple(value, most):
    """Whether the value is a tuple of at most so many items."""
    return isinstance(value, tuple) and len(value) <= most


def _is_piece_move(value):
    """Whether the value is a tuple (sign, told) whose told is None or a mark."""
    if not isinstance(value, tuple) or len(value) != 2:
        return False
    sign, told = value
    return is_sign(sign) and (told is None or is_mark(told))


def told_marks(part):
    """Return the list of the marks that the part tells."""
    if part[0] == "piece":
        return [told for _, told in part[1] if told is not None]
    if part[0] == "said":
        return list(part[1])
    return []


def lacks_mark(parts, index):
    """Whether there is a slot before the slot at the index, and no mark is told between the last of them and it."""
    for part in reversed(parts[:index]):
        if told_marks(part):
            return False
        if part[0] == "slot":
            return True
    return False


def piece_end(reader, state, piece):
    """Return the state behind the word of the piece from the state, None if it does not fit."""
    for sign, told in piece[1]:
        move = reader.move(state, sign)
        if move is None or move[1] != told:
            return None
        state = move[0]
    return state


def fixed_lasts(reader, sets, part):
    """Return, for each state, the set of the states behind the words that fit the piece or the said part from it.

    The sets are integers; sets are those of the reader.
    """
    if part[0] == "said":
        return sets.lasts(part[1])
    lasts = [piece_end(reader, state, part) for state in range(len(reader))]
    return [0 if last is None else 1 << last for last in lasts]
