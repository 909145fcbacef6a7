"""What changes of documents rewrite, and changes that rewrite what stands ahead of their slots."""

from sealedslots.documents import Document
from sealedslots.errors import InvalidCount
from sealedslots.filling import find_unfillable, least_filling, texts_in
from sealedslots.covers import unwritable_texts
from sealedslots.languages import least_text
from sealedslots.readers import is_name, is_word
from sealedslots.rewriting import least_rewriting, reached_states
from sealedslots.sealing import is_sealed, sets_ahead
from sealedslots.values import is_integer


def rewrites(document, slot, text):
    """Return (number ahead, number behind) of the parts that the change would rewrite, None if it is not possible."""
    tasks = document.tasks(slot, text)
    found = least_rewriting(document.template.reader, tasks, document.bounds())
    return None if found is None else (found[0], found[1])


def reach(document, slot, text, most_ahead, most_behind):
    """Return the list of the states in which the words of the earlier parts can end, for each part and behind all."""
    tasks = document.tasks(slot, text)
    _check_count(most_ahead)
    _check_count(most_behind)
    return reached_states(document.template.reader, tasks, document.bounds(), (most_ahead, most_behind))


def _check_count(value):
    """Raise InvalidCount if the value is not a count."""
    if not is_integer(value) or value < 0:
        raise InvalidCount(value)


def disturbing(template):
    """Return (page, changes), the last of which rewrites a part ahead of its slot, None if there are none."""
    if is_sealed(template) or find_unfillable(template) is not None:
        return None
    sets = sets_ahead(template)
    least = {name: least_text(template.language_of(name)) for name in template.slots()}
    page = least_filling(template, least)
    document = Document.of_page(template, page)
    changes = []
    # The start is not in the first set. If nothing ahead is rewritten, each of these texts leads past the set behind
    # its slot, so that the last one would lead past the ends.
    for index, part in enumerate(template.parts()):
        if part[0] == "slot":
            state = document.states()[index]
            text = unwritable_texts(template.reader, [state], sets[index + 1], part[2])[0]
            changes.append((part[1], text))
            rewritten = document.change(part[1], text)
            if min(rewritten, default=index) < index:
                return (page, changes)
    return None


def is_disturbing(template, value):
    """Whether the value is disturbing changes of the template."""
    if not isinstance(value, tuple) or len(value) != 2:
        return False
    page, changes = value
    if not is_word(page) or not isinstance(changes, list) or len(changes) > len(template.slots()):
        return False
    if not all([_is_change(template, change) for change in changes]):
        return False
    if is_sealed(template) or texts_in(template, page) is None:
        return False
    return _disturbs(Document.of_page(template, page), changes)


def _is_change(template, value):
    """Whether the value is a tuple of the name of a slot and a text of its language."""
    if not isinstance(value, tuple) or len(value) != 2:
        return False
    slot, text = value
    return is_name(slot) and slot in template.slots() and text in template.language_of(slot)


def _disturbs(document, changes):
    """Whether all changes are possible, one after another, and one at least rewrites a part ahead of its slot."""
    disturbs = False
    for slot, text in changes:
        many = rewrites(document, slot, text)
        if many is None:
            return False
        disturbs = disturbs or many[0] > 0
        document.change(slot, text)
    return disturbs
