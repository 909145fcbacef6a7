"""With which look-aheads doors are written: safe places, choices that show it, and falls that refute it."""

from sealedslots.choosing import Chooser, is_safe, is_start_safe, safe_holds
from sealedslots.covers import is_wide
from sealedslots.holding import Holding
from sealedslots.languages import is_word_of, live_leads
from sealedslots.places import MOST_HELD, WHOLE, met_places, places_behind, start_place
from sealedslots.readers import is_sign
from sealedslots.search import reached
from sealedslots.sets import Sets, bits_of, states_of
from sealedslots.values import check_look_ahead, is_below, is_integer


def safe_places(door, look_ahead):
    """Return the sorted list of the safe places."""
    check_look_ahead(look_ahead, MOST_HELD)
    safe = safe_holds(door, look_ahead)
    return [place for place in met_places(door, look_ahead) if is_safe(safe, place)]


def is_written_with(door, look_ahead):
    """Whether some writer with the look-ahead writes every text of the language."""
    check_look_ahead(look_ahead, WHOLE)
    if look_ahead == WHOLE:
        return is_wide(door)
    return is_start_safe(door, safe_holds(door, look_ahead))


def least_look_ahead(door):
    """Return the least look-ahead with which the door is written, None if there is none."""
    for look_ahead in range(WHOLE + 1):
        if is_written_with(door, look_ahead):
            return look_ahead
    return None


def choices(door, look_ahead):
    """Return the dict from (language state, held, state, sign) to the states that a writer takes, None if it fails."""
    check_look_ahead(look_ahead, MOST_HELD)
    safe = safe_holds(door, look_ahead)
    if not is_start_safe(door, safe):
        return None
    chooser = Chooser(door, look_ahead, safe)
    found = {}
    for place in met_places(door, look_ahead):
        at, held, state = place
        if len(held) == look_ahead and is_safe(safe, place):
            for sign, _ in live_leads(door.language, at):
                _, behind = chooser.next_place(place, sign)
                found[(at, held, state, sign)] = behind[2]
    return found


def is_choices(door, look_ahead, value):
    """Whether the value is choices of the door for the look-ahead."""
    check_look_ahead(look_ahead, MOST_HELD)
    if not isinstance(value, dict):
        return False
    if door.language.is_empty:
        return True
    sets = Sets(door.reader)
    chosen = {key: state for key, state in value.items() if _is_choice(key, state)}

    def leads(place):
        return _chosen_ways(door, sets, look_ahead, chosen, place)

    places = reached(start_place(door), leads)
    return all([_can_end(door, sets, place) and _leads_on(door, place, leads(place)) for place in places])


def _is_choice(key, state):
    """Whether the key has the form (language state, held, state, sign), and the state that of a state."""
    # Python takes True for 1 in keys of dicts, too; here it is not.
    if not isinstance(key, tuple) or len(key) != 4:
        return False
    return is_integer(key[0]) and is_integer(key[2]) and is_integer(state)


def _chosen_ways(door, sets, look_ahead, chosen, place):
    """Return (sign, place) for each sign by which a place follows that the choices, if they are asked, lead to."""
    at, held, state = place
    found = []
    for sign, _ in live_leads(door.language, at):
        places = places_behind(door, sets, look_ahead, place, sign)
        if len(held) == look_ahead:
            last = chosen.get((at, held, state, sign))
            places = [behind for behind in places if behind[2] == last]
        found.extend([(sign, behind) for behind in places])
    return found


def _can_end(door, sets, place):
    """Whether the text cannot end at the place, or the held text is writable into the states behind then."""
    at, held, state = place
    return not door.language.is_member(at) or sets.last(state, held) & bits_of(door.behind) != 0


def _leads_on(door, place, ways):
    """Whether there is a way for each sign that leads from the place to a live language state."""
    return [sign for sign, _ in ways] == [sign for sign, _ in live_leads(door.language, place[0])]


def fall(door, look_ahead):
    """Return the sorted list of (language state, held, state, turn, reason) of what falls, None if it is written."""
    check_look_ahead(look_ahead, MOST_HELD)
    if is_written_with(door, look_ahead):
        return None
    sets = Sets(door.reader)
    turns = _turns_of_places(door, look_ahead)
    fallen = [place for place in met_places(door, look_ahead) if place in turns]
    return [place + (turns[place], _reason(door, sets, look_ahead, turns, place)) for place in fallen]


def _turns_of_places(door, look_ahead):
    """Return the dict from the places that fall, met or not, to the turns in which they fall."""
    turns = Holding(door.reader, door.language, look_ahead).turns(bits_of(door.behind))
    found = {}
    for number, fallen in enumerate(turns):
        for (at, held), bits in fallen.items():
            for state in states_of(bits):
                found[(at, held, state)] = number + 1
    return found


def _reason(door, sets, look_ahead, turns, place):
    """Return why the place falls in its turn."""
    if not _can_end(door, sets, place):
        return None
    signs = [sign for sign, _ in live_leads(door.language, place[0])]
    return [sign for sign in signs if _falls_by(door, sets, look_ahead, turns, place, turns[place], sign)][0]


def _falls_by(door, sets, look_ahead, turns, place, turn, sign):
    """Whether all places that follow by the sign fall in earlier turns."""
    places = places_behind(door, sets, look_ahead, place, sign)
    return all([turns.get(behind, turn) < turn for behind in places])


def is_fall(door, look_ahead, value):
    """Whether the value is a fall of the door for the look-ahead."""
    check_look_ahead(look_ahead, MOST_HELD)
    if not isinstance(value, list) or not all([_is_fallen(door, look_ahead, fallen) for fallen in value]):
        return False
    turns = {}
    for at, held, state, turn, _ in value:
        place = (at, held, state)
        turns[place] = min(turn, turns.get(place, turn))
    if start_place(door) not in turns:
        return False
    sets = Sets(door.reader)
    return all([_has_fallen(door, sets, look_ahead, turns, fallen) for fallen in value])


def _is_fallen(door, look_ahead, value):
    """Whether the value has the form (language state, held, state, turn, reason)."""
    if not isinstance(value, tuple) or len(value) != 5:
        return False
    at, held, state, turn, reason = value
    if not is_below(at, len(door.language)) or not is_below(state, len(door.reader)):
        return False
    if not is_word_of(held, door.language.signs) or len(held) > look_ahead:
        return False
    return is_integer(turn) and turn >= 1 and (reason is None or is_sign(reason))


def _has_fallen(door, sets, look_ahead, turns, fallen):
    """Whether the place falls in the turn for the reason."""
    at, held, state, turn, reason = fallen
    place = (at, held, state)
    if reason is None:
        return not _can_end(door, sets, place)
    if reason not in [sign for sign, _ in live_leads(door.language, at)]:
        return False
    return _falls_by(door, sets, look_ahead, turns, place, turn, reason)
