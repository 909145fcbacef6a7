"""Which texts are written through a door: wide doors, covers, and the least states behind that suffice."""

from sealedslots.errors import InvalidSigns
from sealedslots.languages import are_language_signs, language_from, live_leads
from sealedslots.search import distances_to, graph_from, nearest_way
from sealedslots.sets import Sets, bits_of, has_inside, least_sets, states_of
from sealedslots.values import check_state, check_states, is_below, is_state_set


def find_unwritable(door):
    """Return the least text of the language that is not writable through the door, None if there is none."""
    return unwritable_texts(door.reader, [door.state], door.behind, door.language)[0]


def is_wide(door):
    """Whether every text of the language is writable through the door."""
    return find_unwritable(door) is None


def unwritable_texts(reader, states, behind, language):
    """Return, for each of the states, what find_unwritable returns for the door with it."""
    # All states share one graph: what is met from one of them is often met from others, too.
    sets = Sets(reader)
    firsts = [(0, sets.silent(1 << state)) for state in states]
    graph = _met_pairs(sets, language, firsts)
    wanted = bits_of(behind)
    failing = [(at, bits) for at, bits in graph if language.is_member(at) and not bits & wanted]
    distances = distances_to(failing, graph)
    return [nearest_way(graph, distances, first) for first in firsts]


def _met_pairs(sets, language, firsts):
    """Return the graph of the pairs that are met from the first ones; a pair has its set of states as bits."""
    if language.is_empty:
        return {}
    ways = [live_leads(language, at) for at in range(len(language))]

    def leads(pair):
        before, bits = pair
        return [(sign, (after, sets.step(bits, sign))) for sign, after in ways[before]]

    return graph_from(firsts, leads)


def cover(door):
    """Return the sorted list of the least met pairs of the door, None if it is not wide."""
    if not is_wide(door):
        return None
    sets = Sets(door.reader)
    graph = _met_pairs(sets, door.language, [(0, sets.silent(1 << door.state))])
    found = []
    for at in range(len(door.language)):
        least = least_sets([bits for other, bits in graph if other == at])
        found.extend([(at, states_of(bits)) for bits in least])
    return sorted(found)


def is_cover(door, value):
    """Whether the value is a cover of the door."""
    if not isinstance(value, list) or not all([_is_pair(door, pair) for pair in value]):
        return False
    language = door.language
    least = [least_sets([bits_of(states) for other, states in value if other == at]) for at in range(len(language))]
    sets = Sets(door.reader)
    if language.is_live(0) and not has_inside(least[0], sets.silent(1 << door.state)):
        return False
    wanted = bits_of(door.behind)
    pairs = [(at, bits_of(states)) for at, states in value]
    return all([_holds(sets, language, wanted, least, pair) for pair in pairs])


def _is_pair(door, value):
    """Whether the value is a tuple of a state of the language and a set of states of the reader."""
    if not isinstance(value, tuple) or len(value) != 2:
        return False
    at, states = value
    return is_below(at, len(door.language)) and is_state_set(states, len(door.reader))


def _holds(sets, language, wanted, least, pair):
    """Whether the pair has what a pair of a cover must have; least are the least sets for each language state."""
    at, bits = pair
    if not language.is_live(at):
        return False
    if language.is_member(at) and not bits & wanted:
        return False
    ways = live_leads(language, at)
    return all([has_inside(least[after], sets.step(bits, sign)) for sign, after in ways])


def writable_texts(reader, state, behind, signs):
    """Return the language of all texts over the signs that are writable from the state into the states behind."""
    check_state(state, len(reader))
    check_states(behind, len(reader))
    if not are_language_signs(signs):
        raise InvalidSigns(signs)
    sets = Sets(reader)
    wanted = bits_of(behind)

    def leads(bits):
        return [(sign, sets.step(bits, sign)) for sign in signs]

    return language_from(signs, sets.silent(1 << state), leads, lambda bits: bits & wanted != 0)


def least_behind(reader, state, language):
    """Return the sorted list of the least sets of states behind with which the door is wide."""
    check_state(state, len(reader))
    sets = Sets(reader)
    graph = _met_pairs(sets, language, [(0, sets.silent(1 << state))])
    # A set suffices if it shares a state with each set behind a text of the language.
    needed = least_sets([bits for at, bits in graph if language.is_member(at)])
    enough = [bits for bits in range(1 << len(reader)) if _meets_all(needed, bits)]
    return sorted([states_of(bits) for bits in least_sets(enough)])


def _meets_all(sets, bits):
    """Whether the set shares a state with each of the sets."""
    for other in sets:
        if not other & bits:
            return False
    return True
