"""Sets of states ahead of parts. They are integers here, as in `sets`."""

from sealedslots.holding import Holding
from sealedslots.parts import fixed_lasts
from sealedslots.places import WHOLE
from sealedslots.sets import Sets, ahead_of, bits_of, states_of
from sealedslots.wholes import WholeTexts


def sets_of_parts(parts, behind, ahead_of_part):
    """Return the list of the sets ahead of all parts, and of the set behind them, as integers.

    ahead_of_part(part, set behind) is the set ahead of a part.
    """
    found = [behind]
    for part in reversed(parts):
        found.append(ahead_of_part(part, found[-1]))
    return list(reversed(found))


def fixed_ahead(reader, sets, part, behind):
    """Return the set ahead of a piece or a said part; sets are those of the reader."""
    return ahead_of(fixed_lasts(reader, sets, part), behind)


def sets_from_behind(template, ahead_of_slot):
    """Return the list of the sets ahead of all parts, and of the set of the ends.

    ahead_of_slot(part, set behind) is the set ahead of a slot.
    """
    reader = template.reader
    sets = Sets(reader)

    def ahead_of_part(part, behind):
        if part[0] == "slot":
            return ahead_of_slot(part, behind)
        return fixed_ahead(reader, sets, part, behind)

    found = sets_of_parts(template.parts(), bits_of(reader.ends()), ahead_of_part)
    return [states_of(bits) for bits in found]


class SlotSets:
    """The sets ahead of slots of a reader. What was found is kept: many vectors ask for the same."""

    def __init__(self, reader):
        self._reader = reader
        self._languages = []
        self._finders = {}
        self._found = {}

    def ahead(self, language, entry, behind):
        """Return the set of the states from which the door into the set behind is written with the entry."""
        kind = (self._number(language), entry)
        key = (kind, behind)
        if key not in self._found:
            if kind not in self._finders:
                self._finders[kind] = _finder(self._reader, language, entry)
            self._found[key] = self._finders[kind].ahead(behind)
        return self._found[key]

    def _number(self, language):
        """Return the number of the language among those that were asked for."""
        for number, known in enumerate(self._languages):
            if known == language:
                return number
        self._languages.append(language)
        return len(self._languages) - 1


def _finder(reader, language, entry):
    """Return what finds the sets ahead of slots with this language and this entry."""
    if entry == WHOLE:
        return WholeTexts(reader, language)
    return Holding(reader, language, entry)
