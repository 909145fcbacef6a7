"""Tests of any values for numbers and for sets of states."""

from sealedslots.errors import InvalidLookAhead, InvalidState, InvalidStates


def is_integer(value):
    """Whether the value is an integer."""
    # Python counts bool as a kind of int, but True and False are never numbers here.
    return isinstance(value, int) and not isinstance(value, bool)


def is_below(value, limit):
    """Whether the value is a count that is less than the limit: a state of something with so many states."""
    return is_integer(value) and 0 <= value < limit


def check_state(value, many):
    """Raise InvalidState if the value is not a state of something with so many states."""
    if not is_below(value, many):
        raise InvalidState(value)


def check_look_ahead(value, most):
    """Raise InvalidLookAhead if the value is not a count up to the most."""
    if not is_below(value, most + 1):
        raise InvalidLookAhead(value)


def are_states(value, many):
    """Whether the value is a list or a tuple of different states of something with so many states."""
    if not isinstance(value, (list, tuple)):
        return False
    if not all([is_below(state, many) for state in value]):
        return False
    return len(set(value)) == len(value)


def check_states(value, many):
    """Raise InvalidStates if the value is not a list or a tuple of different states of so many."""
    if not are_states(value, many):
        raise InvalidStates(value)


def is_state_set(value, many):
    """Whether the value is a set of states, of so many, in the form of a sorted tuple."""
    return isinstance(value, tuple) and are_states(value, many) and list(value) == sorted(value)


def has_length(value, least, most):
    """Whether the value is a list or a tuple that has from least to most items."""
    return isinstance(value, (list, tuple)) and least <= len(value) <= most


def has_keys(value, names):
    """Whether the value is a dict from exactly these names."""
    return isinstance(value, dict) and len(value) == len(names) and all([name in value for name in names])
