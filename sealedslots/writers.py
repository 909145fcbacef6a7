"""Writers that get their texts sign by sign: of a door, and of the slots of a template."""

from sealedslots.choosing import Chooser, is_start_safe, safe_holds
from sealedslots.covers import is_wide
from sealedslots.doors import Door
from sealedslots.errors import Finished, InvalidWord, NotMember, NotSealed, NotWritten
from sealedslots.languages import Language, live_move
from sealedslots.pages import passed
from sealedslots.places import WHOLE, start_place
from sealedslots.readers import Reader, is_sign
from sealedslots.templates import Template
from sealedslots.values import check_look_ahead
from sealedslots.vectors import sets_under
from sealedslots.ways import least_told
from sealedslots.written import fixed_word


def _chooser(door, look_ahead):
    """Return what chooses for a writer, None for one that holds all signs; raise NotWritten if there is no writer."""
    if look_ahead == WHOLE:
        if not is_wide(door):
            raise NotWritten(look_ahead)
        return None
    safe = safe_holds(door, look_ahead)
    if not is_start_safe(door, safe):
        raise NotWritten(look_ahead)
    return Chooser(door, look_ahead, safe)


class SlotWriter:
    """A writer of a door for a look-ahead."""

    def __init__(self, door, look_ahead=WHOLE):
        check_look_ahead(look_ahead, WHOLE)
        self._chooser = _chooser(door, look_ahead)
        self._door = door
        self._place = start_place(door)
        self._text = ""
        self._page = ""
        self._is_finished = False

    @property
    def text(self):
        """All signs that arrived."""
        return self._text

    @property
    def held(self):
        """The signs that arrived and are not written yet."""
        return self._place[1]

    @property
    def page(self):
        """All that was written."""
        return self._page

    @property
    def state(self):
        """The state of the reader behind all that was written."""
        return self._place[2]

    @property
    def is_finished(self):
        """Whether the text has ended."""
        return self._is_finished

    def feed(self, sign):
        """Take the next sign of the text; return the word that is written."""
        if not is_sign(sign):
            raise InvalidWord(sign)
        if self._is_finished:
            raise Finished(self._page)
        at, held, state = self._place
        after = live_move(self._door.language, at, sign)
        if after is None:
            raise NotMember(self._text + sign)
        word = ""
        place = (after, held + sign, state)
        if self._chooser is not None:
            written, place = self._chooser.next_place(self._place, sign)
            if written is not None:
                word = least_told(self._door.reader, state, written, (place[2],))
        self._place = place
        self._text += sign
        self._page += word
        return word

    def finish(self):
        """Take the end of the text; return the word that is written."""
        if self._is_finished:
            raise Finished(self._page)
        at, held, state = self._place
        if not self._door.language.is_member(at):
            raise NotMember(self._text)
        word = least_told(self._door.reader, state, held, self._door.behind)
        _, last = passed(self._door.reader, state, word)
        self._place = (at, "", last)
        self._page += word
        self._is_finished = True
        return word

    def clone(self):
        """Return an independent copy."""
        # A writer for a door without texts is made at once; what was found out about this door is shared, not repeated.
        copy = SlotWriter(Door(self._door.reader, self._door.state, (), Language.of("a")))
        copy._chooser = self._chooser
        copy._door = self._door
        copy._place = self._place
        copy._text = self._text
        copy._page = self._page
        copy._is_finished = self._is_finished
        return copy


class PageWriter:
    """A writer of the pages of a template, slot by slot, under a vector."""

    def __init__(self, template, vector=None):
        slots = template.slots()
        entries = (WHOLE,) * len(slots) if vector is None else vector
        sets = sets_under(template, entries)
        if template.reader.start not in sets[0]:
            raise NotSealed(vector)
        self._reader = template.reader
        self._parts = template.parts()
        self._sets = sets
        self._entries = {name: entry for name, entry in zip(slots, entries)}
        self._index = 0
        self._state = template.reader.start
        self._page = ""
        self._slot = None
        self._writer = None
        self._texts = {}
        self._write_to_slot()

    @property
    def slot(self):
        """The name of the slot that is being written, None if the page is complete."""
        return self._slot

    @property
    def page(self):
        """All that was written."""
        return self._page

    def feed(self, sign):
        """Take the next sign of the text of the slot; return the word that is written."""
        if not is_sign(sign):
            raise InvalidWord(sign)
        if self._slot is None:
            raise Finished(self._page)
        word = self._writer.feed(sign)
        self._page += word
        return word

    def end_slot(self):
        """Take the end of the text of the slot; return the word that is written, up to the next slot or the end."""
        if self._slot is None:
            raise Finished(self._page)
        word = self._writer.finish()
        self._page += word
        self._state = self._writer.state
        self._texts[self._slot] = self._writer.text
        self._index += 1
        return word + self._write_to_slot()

    def texts(self):
        """Return the dict from the slots that are complete, in sequence, to their texts."""
        return dict(self._texts)

    def clone(self):
        """Return an independent copy."""
        # As for a writer of a door: the copy begins as one for a template without slots, of which nothing is found out.
        copy = PageWriter(Template(Reader([{}], [0]), [("piece", ())]))
        copy._reader = self._reader
        copy._parts = self._parts
        copy._sets = self._sets
        copy._entries = self._entries
        copy._index = self._index
        copy._state = self._state
        copy._page = self._page
        copy._slot = self._slot
        copy._writer = None if self._writer is None else self._writer.clone()
        copy._texts = dict(self._texts)
        return copy

    def _write_to_slot(self):
        """Write the parts up to the next slot or the end of the page, and begin the slot; return the word."""
        words = []
        while self._index < len(self._parts) and self._parts[self._index][0] != "slot":
            behind = self._sets[self._index + 1]
            word = fixed_word(self._reader, self._parts[self._index], self._state, behind)
            _, self._state = passed(self._reader, self._state, word)
            words.append(word)
            self._index += 1
        self._begin_slot()
        self._page += "".join(words)
        return "".join(words)

    def _begin_slot(self):
        """Make the writer of the slot at the index, if there is one."""
        self._slot = None
        self._writer = None
        if self._index < len(self._parts):
            _, name, language = self._parts[self._index]
            self._slot = name
            door = Door(self._reader, self._state, self._sets[self._index + 1], language)
            self._writer = SlotWriter(door, self._entries[name])
