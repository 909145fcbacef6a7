"""Kinds of slots, rows of parts with slots of these kinds, and contexts around such rows."""

from sealedslots.ahead import SlotSets, fixed_ahead, sets_of_parts
from sealedslots.errors import InvalidKinds, InvalidParts
from sealedslots.languages import Language
from sealedslots.parts import MAX_PARTS, is_part, lacks_mark, told_marks
from sealedslots.places import WHOLE
from sealedslots.sets import Sets
from sealedslots.values import has_length, is_below

MAX_KINDS = 4


def check_kinds(value):
    """Raise InvalidKinds if the value is not kinds."""
    if not has_length(value, 1, MAX_KINDS):
        raise InvalidKinds(None)
    for place, kind in enumerate(value):
        if not _is_kind(kind) or has_language(value[:place], kind[0]):
            raise InvalidKinds(place)


def _is_kind(value):
    """Whether the value is a tuple of a language that has texts, and an entry."""
    if not isinstance(value, tuple) or len(value) != 2:
        return False
    language, entry = value
    return isinstance(language, Language) and not language.is_empty and is_below(entry, WHOLE + 1)


def has_language(kinds, language):
    """Whether the language is that of one of the kinds."""
    return any([known == language for known, _ in kinds])


def _entry_of(kinds, language):
    """Return the entry of the kind with the language."""
    return [entry for known, entry in kinds if known == language][0]


def check_row_of_parts(kinds, value):
    """Raise InvalidParts if the value is not a row of parts for the kinds."""
    if not has_length(value, 0, MAX_PARTS):
        raise InvalidParts("parts", None)
    for place, part in enumerate(value):
        if not is_part(part):
            raise InvalidParts("part", place)
    for place, part in enumerate(value):
        if part[0] == "slot" and not has_language(kinds, part[2]):
            raise InvalidParts("language", place)
    for place, part in enumerate(value):
        if part[0] == "slot" and lacks_mark(value, place):
            raise InvalidParts("mark", place)


def single_parts(reader, kinds):
    """Return the list of the single parts of the reader for the kinds; each slot has the name a."""
    marks = reader.marks()
    pieces = [("piece", ((sign, told),)) for sign in reader.page_signs() for told in [None] + marks]
    said = [("said", ())] + [("said", (mark,)) for mark in marks]
    return pieces + said + [("slot", "a", language) for language, _ in kinds]


def is_context(kinds, value):
    """Whether the value is a context, of any parts with slots of the kinds and any names."""
    if not isinstance(value, tuple) or len(value) != 2:
        return False
    head, tail = value
    if not _are_parts(kinds, head) or not _are_parts(kinds, tail):
        return False
    return not lacks_mark(head, len(head)) and _is_free(tail)


def _are_parts(kinds, value):
    """Whether the value is a tuple of parts with slots of the kinds, between any two of which some mark is told."""
    if not isinstance(value, tuple) or not all([is_part(part) for part in value]):
        return False
    slots = [place for place, part in enumerate(value) if part[0] == "slot"]
    return all([has_language(kinds, value[place][2]) and not lacks_mark(value, place) for place in slots])


def _is_free(tail):
    """Whether the parts have no slot, or tell a mark before the first one."""
    for part in tail:
        if part[0] == "slot":
            return False
        if told_marks(part):
            return True
    return True


class PartSets:
    """The sets ahead of parts of a reader, each slot with the entry of its kind. What was found for slots is kept."""

    def __init__(self, reader, kinds):
        self._reader = reader
        self._kinds = kinds
        self._sets = Sets(reader)
        self._slot_sets = SlotSets(reader)

    def ahead(self, part, behind):
        """Return the set ahead of the part, as an integer like the set behind it."""
        if part[0] == "slot":
            return self._slot_sets.ahead(part[2], _entry_of(self._kinds, part[2]), behind)
        return fixed_ahead(self._reader, self._sets, part, behind)

    def ahead_of_row(self, parts, behind):
        """Return the set ahead of the row of parts."""
        return sets_of_parts(parts, behind, lambda part, after: self.ahead(part, after))[0]
