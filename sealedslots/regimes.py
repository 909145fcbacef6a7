"""Regimes of templates: for each slot a look-ahead, or a given writer."""

from sealedslots.ahead import SlotSets, sets_from_behind
from sealedslots.doors import Door
from sealedslots.errors import InvalidRegimes, NotSealed
from sealedslots.given import GivenWriter, is_faithful
from sealedslots.places import WHOLE
from sealedslots.sets import bits_of, states_of
from sealedslots.values import has_keys, is_below
from sealedslots.writers import SlotWriter
from sealedslots.written import written_words


def sets_with(template, regimes):
    """Return the list of the sets ahead of all parts with the regimes, and of the set of the ends."""
    _check_regimes(template, regimes)
    slot_sets = SlotSets(template.reader)

    def ahead_of_slot(part, behind):
        _, name, language = part
        if isinstance(regimes[name], GivenWriter):
            return _faithful_ahead(template.reader, language, regimes[name], behind)
        return slot_sets.ahead(language, regimes[name], behind)

    return sets_from_behind(template, ahead_of_slot)


def _check_regimes(template, value):
    """Raise InvalidRegimes if the value is not regimes of the template."""
    if not has_keys(value, template.slots()):
        raise InvalidRegimes("names", None)
    for name in template.slots():
        if not is_below(value[name], WHOLE + 1) and not isinstance(value[name], GivenWriter):
            raise InvalidRegimes("regime", name)


def _faithful_ahead(reader, language, writer, behind):
    """Return the set of the states from which the writer is faithful at the door into the set behind."""
    doors = [Door(reader, state, states_of(behind), language) for state in range(len(reader))]
    return bits_of([door.state for door in doors if is_faithful(door, writer)])


def is_sealed_with(template, regimes):
    """Whether the set ahead of the first part, with the regimes, contains the start."""
    return template.reader.start in sets_with(template, regimes)[0]


def filling_with(template, regimes, texts):
    """Return the page that is written part by part, each slot with its regime."""
    sets = sets_with(template, regimes)
    template.check_texts(texts)
    if template.reader.start not in sets[0]:
        raise NotSealed(None)

    def slot_word(part, state, behind):
        _, name, language = part
        if isinstance(regimes[name], GivenWriter):
            return regimes[name].output(texts[name])
        return _fed_word(SlotWriter(Door(template.reader, state, behind, language), regimes[name]), texts[name])

    return "".join(written_words(template, sets, slot_word))


def _fed_word(writer, text):
    """Return what the writer writes for the text."""
    for sign in text:
        writer.feed(sign)
    writer.finish()
    return writer.page
