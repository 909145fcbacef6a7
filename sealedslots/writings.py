"""Least words that write texts, or tell rows, from one state to another."""

from sealedslots.readers import check_row, check_word
from sealedslots.values import check_state
from sealedslots.ways import least_told


def least_word(reader, state, row, target):
    """Return the least word that tells exactly the row and leads from the state to the target, or None."""
    check_state(state, len(reader))
    check_row(row)
    check_state(target, len(reader))
    return least_told(reader, state, row, (target,))


def least_writing(door, text):
    """Return the least word that writes the text and leads into the states behind the door, None if there is none."""
    check_word(text)
    return least_told(door.reader, door.state, text, door.behind)
