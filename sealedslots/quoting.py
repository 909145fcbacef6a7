"""Words that must stand around what given writers write, and signs that may be written as they are."""

from sealedslots.doors import Door
from sealedslots.errors import InvalidSigns
from sealedslots.given import GivenWriter, end_states, failure, find_failing
from sealedslots.languages import is_word_of
from sealedslots.runs import least_failing
from sealedslots.search import least_way, reached
from sealedslots.sets import Sets, bits_of, joined, states_of
from sealedslots.values import is_below, is_state_set
from sealedslots.ways import least_told


def goes_raw(door, signs):
    """Whether no text of the language that consists of these signs only fails with their raw writer."""
    if not is_word_of(signs, door.language.signs) or list(signs) != sorted(set(signs)):
        raise InvalidSigns(signs)
    return _least_failing_raw(door, signs) is None


def _least_failing_raw(door, signs):
    """Return the least text of the language that consists of these signs and fails with their raw writer, or None."""
    return least_failing(door, GivenWriter.raw(signs), signs)


def _failing_raw(door):
    """Return the dict from all sets of signs of the language to their least texts that fail, or None."""
    found = [""]
    for sign in door.language.signs:
        found = found + [signs + sign for signs in found]
    return {signs: _least_failing_raw(door, signs) for signs in sorted(found)}


def raw_sets(door):
    """Return the sorted list of the greatest sets of signs that go raw."""
    failing = _failing_raw(door)
    raw = [signs for signs in failing if failing[signs] is None]
    return [signs for signs in raw if not any([_is_less(signs, other) for other in raw])]


def _is_less(one, other):
    """Whether the first set of signs lies inside the other one, which has more."""
    return len(one) < len(other) and is_word_of(one, other)


def raw_refusals(door):
    """Return the dict from each least set of signs that does not go raw to its least text that fails."""
    failing = _failing_raw(door)
    refused = [signs for signs in failing if failing[signs] is not None]
    return {signs: failing[signs] for signs in refused if not any([_is_less(other, signs) for other in refused])}


def quotes(door, writer):
    """Return the least quotes of the writer at the door, None if there are none."""
    found = []
    for state in _silent_states(door):
        if _least_failing_at(door, writer, state) is None:
            y = _least_y(door, _ends_at(door, writer, state))
            if y is not None:
                x = least_told(door.reader, door.state, "", (state,))
                found.append((len(x) + len(y), len(x), x, y))
    if not found:
        return None
    _, _, x, y = min(found)
    return (x, y)


def _silent_states(door):
    """Return the states to which silent moves lead from the state of the door."""
    return states_of(Sets(door.reader).silent(1 << door.state))


def _open_door(door, state):
    """Return the door with this state, all states behind, and the same language."""
    return Door(door.reader, state, list(range(len(door.reader))), door.language)


def _least_failing_at(door, writer, state):
    """Return the least text of the language that fails from the state, whatever state its output ends in, or None."""
    return find_failing(_open_door(door, state), writer)


def _ends_at(door, writer, state):
    """Return the set, as an integer, in which the outputs for the texts end from the state; none of them fails."""
    return bits_of(end_states(_open_door(door, state), writer))


def _silent_moves(reader):
    """Return, for each page sign, (sign, set of the states with a silent move by it, table of the sets behind)."""
    found = []
    for sign in reader.page_signs():
        moves = [reader.move(state, sign) for state in range(len(reader))]
        table = [1 << move[0] if move is not None and move[1] is None else 0 for move in moves]
        found.append((sign, bits_of([state for state, bits in enumerate(table) if bits]), table))
    return found


def _silent_leads(moves, bits):
    """Return (sign, set behind) for each page sign that has a silent move from each state of the set."""
    return [(sign, joined(table, bits)) for sign, states, table in moves if bits | states == states]


def _least_y(door, ends):
    """Return the least word that passes from all states of the set, tells nothing and leads into the states behind."""
    moves = _silent_moves(door.reader)
    wanted = bits_of(door.behind)
    return least_way(ends, lambda bits: _silent_leads(moves, bits), lambda node: node | wanted == wanted)


def quote_refusal(door, writer):
    """Return the quote refusal, with the least texts and exactly the end sets, None if there are quotes."""
    if quotes(door, writer) is not None:
        return None
    return {state: _reason(door, writer, state) for state in _silent_states(door)}


def _reason(door, writer, state):
    """Return ("text", least text that fails) or ("sets", sorted list of the end sets) for the state."""
    text = _least_failing_at(door, writer, state)
    if text is not None:
        return ("text", text)
    return ("sets", sorted(_end_sets(door, writer, state)))


def _end_sets(door, writer, state):
    """Return the list of the end sets of the state, at which no text fails."""
    moves = _silent_moves(door.reader)
    sets = reached(_ends_at(door, writer, state), lambda bits: _silent_leads(moves, bits))
    return [states_of(bits) for bits in sets]


def is_quote_refusal(door, writer, value):
    """Whether the value is a quote refusal of the writer at the door."""
    if not isinstance(value, dict) or not all([is_below(state, len(door.reader)) for state in value]):
        return False
    if sorted(value) != list(_silent_states(door)):
        return False
    return all([_refuses(door, writer, state, reason) for state, reason in value.items()])


def _refuses(door, writer, state, reason):
    """Whether the reason is one for which there are no quotes with an x that leads to the state."""
    if not isinstance(reason, tuple) or len(reason) != 2 or not isinstance(reason[0], str):
        return False
    word, shown = reason
    if _least_failing_at(door, writer, state) is not None:
        return word == "text" and shown in door.language and failure(_open_door(door, state), writer, shown) is not None
    return word == "sets" and _are_end_sets(door, shown, _end_sets(door, writer, state))


def _are_end_sets(door, value, needed):
    """Whether the value is a list of sets that has the needed ones, and none that lies inside the states behind."""
    if not isinstance(value, list) or not all([is_state_set(states, len(door.reader)) for states in value]):
        return False
    shown = {states: True for states in value}
    if not all([states in shown for states in needed]):
        return False
    wanted = bits_of(door.behind)
    return not any([bits_of(states) | wanted == wanted for states in value])
