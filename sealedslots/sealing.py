"""Whether templates are sealed: sets ahead of their parts, and refusals."""

from sealedslots.covers import unwritable_texts
from sealedslots.parts import piece_end
from sealedslots.sets import Sets, states_of
from sealedslots.values import is_below


def sets_ahead(template):
    """Return the list of the sets ahead of all parts, and of the set of the ends."""
    reader = template.reader
    return [_other_states(reader, refused) for refused in _refused_states(template)] + [reader.ends()]


def is_sealed(template):
    """Whether the set ahead of the first part contains the start."""
    return template.reader.start in sets_ahead(template)[0]


def refusal(template):
    """Return the list of (index of a part, state, reason) for all states that are not ahead, None if it is sealed."""
    refused = _refused_states(template)
    if template.reader.start not in refused[0]:
        return None
    return [(index, state, reason) for index, states in enumerate(refused) for state, reason in states.items()]


def _refused_states(template):
    """Return, for each part, the dict from the states that are not in the set ahead of it to the reasons."""
    reader = template.reader
    behind = reader.ends()
    found = []
    for part in reversed(template.parts()):
        refused = _refused_by(reader, part, behind)
        behind = _other_states(reader, refused)
        found.append(refused)
    return list(reversed(found))


def _other_states(reader, refused):
    """Return the sorted tuple of the states that are not refused."""
    return tuple([state for state in range(len(reader)) if state not in refused])


def _refused_by(reader, part, behind):
    """Return the dict from the states that are not ahead of the part to the reasons, by ascending states."""
    states = list(range(len(reader)))
    if part[0] == "slot":
        texts = unwritable_texts(reader, states, behind, part[2])
        return {state: text for state, text in enumerate(texts) if text is not None}
    return {state: None for state in states if not _leads_into(reader, part, state, behind)}


def _leads_into(reader, part, state, behind):
    """Whether some word fits the piece or the said part from the state and leads into the states behind."""
    return any([last in behind for last in _ends_of(reader, part, state)])


def _ends_of(reader, part, state):
    """Return the states behind the words that fit the piece or the said part from the state."""
    if part[0] == "said":
        return states_of(Sets(reader).last(state, part[1]))
    last = piece_end(reader, state, part)
    if last is None:
        return ()
    return (last,)


def is_refusal(template, value):
    """Whether the value is a refusal of the template."""
    if not isinstance(value, list) or not all([_is_refused(template, refused) for refused in value]):
        return False
    reader = template.reader
    outside = {(index, state): True for index, state, _ in value}
    if (0, reader.start) not in outside:
        return False
    for state in range(len(reader)):
        if state not in reader.ends():
            outside[(len(template), state)] = True
    return all([_stays_outside(template, outside, refused) for refused in value])


def _is_refused(template, value):
    """Whether the value is a tuple (index of a part, state, reason), by its form and for a slot by the language."""
    if not isinstance(value, tuple) or len(value) != 3:
        return False
    index, state, reason = value
    if not is_below(index, len(template)) or not is_below(state, len(template.reader)):
        return False
    part = template.parts()[index]
    if part[0] == "slot":
        return reason in part[2]
    return reason is None


def _stays_outside(template, outside, refused):
    """Whether all states behind the part, or behind the text that is the reason, are outside of the next index."""
    index, state, reason = refused
    part = template.parts()[index]
    if part[0] == "slot":
        lasts = states_of(Sets(template.reader).last(state, reason))
    else:
        lasts = _ends_of(template.reader, part, state)
    return all([(index + 1, last) in outside for last in lasts])
