"""Whether templates are sealed: sets ahead of their parts, and refusals."""

from sealedslots.ahead import SlotSets, sets_from_behind
from sealedslots.covers import unwritable_texts
from sealedslots.parts import fixed_lasts
from sealedslots.places import WHOLE
from sealedslots.sets import Sets, states_of
from sealedslots.values import is_below


def sets_ahead(template):
    """Return the list of the sets ahead of all parts, and of the set of the ends."""
    slot_sets = SlotSets(template.reader)
    return sets_from_behind(template, lambda part, behind: slot_sets.ahead(part[2], WHOLE, behind))


def is_sealed(template):
    """Whether the set ahead of the first part contains the start."""
    return template.reader.start in sets_ahead(template)[0]


def refusal(template):
    """Return the list of (index of a part, state, reason) for all states that are not ahead, None if it is sealed."""
    reader = template.reader
    sets = sets_ahead(template)
    if reader.start in sets[0]:
        return None
    found = []
    for index, part in enumerate(template.parts()):
        states = [state for state in range(len(reader)) if state not in sets[index]]
        reasons = [None] * len(states)
        if part[0] == "slot":
            reasons = unwritable_texts(reader, states, sets[index + 1], part[2])
        found.extend([(index, state, reason) for state, reason in zip(states, reasons)])
    return found


def is_refusal(template, value):
    """Whether the value is a refusal of the template."""
    if not isinstance(value, list) or not all([_is_refused(template, refused) for refused in value]):
        return False
    reader = template.reader
    outside = {(index, state): True for index, state, _ in value}
    if (0, reader.start) not in outside:
        return False
    for state in range(len(reader)):
        if state not in reader.ends():
            outside[(len(template), state)] = True
    sets = Sets(reader)
    return all([_stays_outside(template, sets, outside, refused) for refused in value])


def _is_refused(template, value):
    """Whether the value is a tuple (index of a part, state, reason), by its form and for a slot by the language."""
    if not isinstance(value, tuple) or len(value) != 3:
        return False
    index, state, reason = value
    if not is_below(index, len(template)) or not is_below(state, len(template.reader)):
        return False
    part = template.parts()[index]
    if part[0] == "slot":
        return reason in part[2]
    return reason is None


def _stays_outside(template, sets, outside, refused):
    """Whether all states behind the part, or behind the text that is the reason, are outside of the next index."""
    index, state, reason = refused
    part = template.parts()[index]
    if part[0] == "slot":
        lasts = sets.last(state, reason)
    else:
        lasts = fixed_lasts(template.reader, sets, part)[state]
    return all([(index + 1, last) in outside for last in states_of(lasts)])
