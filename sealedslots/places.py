"""Places of writers with a look-ahead: what has arrived, what they hold, and where they stand."""

from sealedslots.holding import hold_behind
from sealedslots.search import reached
from sealedslots.sets import Sets, states_of
from sealedslots.values import check_look_ahead

WHOLE = 4
MOST_HELD = 3


def following(door, look_ahead, place, sign):
    """Return the sorted list of the places that follow the place by the sign."""
    check_look_ahead(look_ahead, MOST_HELD)
    return places_behind(door, Sets(door.reader), look_ahead, place, sign)


def met_places(door, look_ahead):
    """Return the sorted list of the places that are met."""
    check_look_ahead(look_ahead, MOST_HELD)
    if door.language.is_empty:
        return []
    sets = Sets(door.reader)

    def leads(place):
        signs = door.language.signs
        return [(sign, after) for sign in signs for after in places_behind(door, sets, look_ahead, place, sign)]

    return sorted(reached(start_place(door), leads))


def start_place(door):
    """Return the place at which nothing has arrived."""
    return (0, "", door.state)


def places_behind(door, sets, look_ahead, place, sign):
    """Return what `following` returns; sets are those of the reader."""
    at, held, state = place
    way = hold_behind(door.language, look_ahead, (at, held), sign)
    if way is None:
        return []
    written, (after, rest) = way
    if written is None:
        return [(after, rest, state)]
    return [(after, rest, last) for last in states_of(sets.last(state, written))]
