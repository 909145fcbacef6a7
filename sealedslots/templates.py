"""Templates: fixed parts, and slots for texts."""

from sealedslots.errors import InvalidTemplate, InvalidTexts, UnknownSlot
from sealedslots.parts import MAX_PARTS, is_part, lacks_mark, told_marks
from sealedslots.readers import is_name
from sealedslots.values import has_keys, has_length

MAX_SLOTS = 4


def _check_slot(parts, index):
    """Raise the error for a slot that cannot stand behind the parts before it."""
    name = parts[index][1]
    if name in [part[1] for part in parts[:index] if part[0] == "slot"]:
        raise InvalidTemplate("name", index)
    if parts[index][2].is_empty:
        raise InvalidTemplate("empty", index)
    if lacks_mark(parts, index):
        raise InvalidTemplate("mark", index)


class Template:
    """A reader and a row of parts."""

    def __init__(self, reader, parts):
        if not has_length(parts, 1, MAX_PARTS):
            raise InvalidTemplate("parts", None)
        for index, part in enumerate(parts):
            if not is_part(part):
                raise InvalidTemplate("part", index)
        slots = [index for index, part in enumerate(parts) if part[0] == "slot"]
        if len(slots) > MAX_SLOTS:
            raise InvalidTemplate("slots", None)
        for index in slots:
            _check_slot(parts, index)
        self._reader = reader
        self._parts = list(parts)
        self._languages = {parts[index][1]: parts[index][2] for index in slots}

    @property
    def reader(self):
        """The reader."""
        return self._reader

    def parts(self):
        """Return the list of the parts."""
        return list(self._parts)

    def slots(self):
        """Return the list of the names of the slots, in sequence."""
        return list(self._languages)

    def language_of(self, name):
        """Return the language of the slot of this name."""
        # A value that is no name may be one that no dict can be asked for.
        if not is_name(name) or name not in self._languages:
            raise UnknownSlot(name)
        return self._languages[name]

    def row(self, texts):
        """Return what all parts tell, with the texts in the slots."""
        self.check_texts(texts)
        row = []
        for part in self._parts:
            if part[0] == "slot":
                row.extend(texts[part[1]])
            else:
                row.extend(told_marks(part))
        return tuple(row)

    def check_texts(self, texts):
        """Raise InvalidTexts if the texts are not a dict from exactly the names of the slots to texts for them."""
        if not has_keys(texts, self._languages):
            raise InvalidTexts("names", None)
        for name, language in self._languages.items():
            if texts[name] not in language:
                raise InvalidTexts("text", name)

    def __len__(self):
        return len(self._parts)

    def __eq__(self, other):
        if not isinstance(other, Template):
            return False
        return self._reader == other._reader and self._parts == other._parts
