"""Vectors of templates: an entry for each slot, and under which of them the template is sealed."""

from sealedslots.ahead import SlotSets, sets_from_behind
from sealedslots.errors import InvalidVector
from sealedslots.parts import fixed_lasts
from sealedslots.places import WHOLE
from sealedslots.sets import Sets, ahead_of, bits_of
from sealedslots.values import is_below


def sets_under(template, vector):
    """Return the list of the sets ahead of all parts under the vector, and of the set of the ends."""
    check_vector(template, vector)
    entries = {name: entry for name, entry in zip(template.slots(), vector)}
    slot_sets = SlotSets(template.reader)
    return sets_from_behind(template, lambda part, behind: slot_sets.ahead(part[2], entries[part[1]], behind))


def is_sealed_under(template, vector):
    """Whether the set ahead of the first part, under the vector, contains the start."""
    return template.reader.start in sets_under(template, vector)[0]


def check_vector(template, value):
    """Raise InvalidVector if the value is not a tuple of as many entries as the template has slots."""
    if not isinstance(value, tuple) or len(value) != len(template.slots()):
        raise InvalidVector(value)
    if not all([is_below(entry, WHOLE + 1) for entry in value]):
        raise InvalidVector(value)


def sealing_vectors(template):
    """Return the sorted list of the least vectors under which the template is sealed."""
    sealed = _sealed_by_vector(template)
    found = [vector for vector in sealed if sealed[vector]]
    # Greater vectors seal what lesser ones seal, so the next lesser ones tell whether a vector is a least one.
    return sorted([vector for vector in found if not _any_of(sealed, _neighbours(vector, -1), True)])


def failing_vectors(template):
    """Return the sorted list of the greatest vectors under which the template is not sealed."""
    sealed = _sealed_by_vector(template)
    found = [vector for vector in sealed if not sealed[vector]]
    return sorted([vector for vector in found if not _any_of(sealed, _neighbours(vector, 1), False)])


def _neighbours(vector, step):
    """Return the list of the tuples that differ from the vector by the step in one entry."""
    return [vector[:at] + (entry + step,) + vector[at + 1:] for at, entry in enumerate(vector)]


def _any_of(sealed, vectors, wanted):
    """Whether the template is as wanted, sealed or not, under one of those that are vectors."""
    return wanted in [sealed[vector] for vector in vectors if vector in sealed]


def _sealed_by_vector(template):
    """Return the dict from all vectors of the template to whether it is sealed under them."""
    reader = template.reader
    sets = Sets(reader)
    slot_sets = SlotSets(reader)
    # From the vectors of the last slots to the sets ahead of them.
    found = {(): bits_of(reader.ends())}
    for part in reversed(template.parts()):
        if part[0] == "slot":
            found = {(entry,) + vector: slot_sets.ahead(part[2], entry, behind)
                     for entry in range(WHOLE + 1) for vector, behind in found.items()}
        else:
            lasts = fixed_lasts(reader, sets, part)
            found = {vector: ahead_of(lasts, behind) for vector, behind in found.items()}
    return {vector: bits >> reader.start & 1 == 1 for vector, bits in found.items()}
