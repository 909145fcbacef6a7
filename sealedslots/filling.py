"""Pages that fill templates, and for which texts there are some."""

from sealedslots.fillings import BETWEEN, Fillings
from sealedslots.fits import divided, least_fit
from sealedslots.pages import passed
from sealedslots.parts import told_marks
from sealedslots.readers import check_word, is_sign
from sealedslots.sealing import sets_ahead
from sealedslots.search import least_way, reached
from sealedslots.sets import bits_of, inside_marks, states_of
from sealedslots.values import is_below, is_state_set
from sealedslots.written import plain_words


def is_filled(template, texts, page):
    """Whether the page fills the template with these texts."""
    # The page is checked first: no other error is named for it.
    check_word(page)
    template.check_texts(texts)
    return divided(template, texts, page) is not None


def texts_in(template, page):
    """Return the dict from the slots to the texts with which the page fills the template, None if there are none."""
    found = passed(template.reader, template.reader.start, page)
    if found is None:
        return None
    texts = texts_between_marks(template, found[0])
    if not all([texts[name] in template.language_of(name) for name in texts]):
        return None
    return None if divided(template, texts, page) is None else texts


def texts_between_marks(template, row):
    """Return the dict from the slots to what the row has between the marks of the parts around them."""
    between = [""]
    for told in row:
        if is_sign(told):
            between[-1] += told
        else:
            between.append("")
    texts = {}
    many = 0
    for part in template.parts():
        if part[0] == "slot":
            texts[part[1]] = "".join(between[many:many + 1])
        many += len(told_marks(part))
    return texts


def least_filling(template, texts):
    """Return the least page that fills the template with these texts, None if there is none."""
    template.check_texts(texts)
    return least_fit(template, texts)


def plain_filling(template, texts):
    """Return the page that is written part by part, each slot by a writer that gets its whole text first."""
    template.check_texts(texts)
    return "".join(plain_words(template, sets_ahead(template), texts))


def find_unfillable(template):
    """Return the dict of the least texts for which no page fills the template, None if it is fillable."""
    fillings = Fillings(template)
    if not template.slots():
        return None if fillings.has_page() else {}

    def leads(node):
        return fillings.leads(node)

    # All ways to what is lost pass between slots equally often; so the shortest one has the fewest signs.
    found = least_way(fillings.first(), leads, lambda node: fillings.is_lost(node))
    if found is None:
        return None
    return {name: text for name, text in zip(template.slots(), found.split(BETWEEN))}


def fill_cover(template):
    """Return a fill cover, with the least sets that are met for each slot and language state; None if there is none."""
    fillings = Fillings(template)
    if not template.slots():
        return [] if fillings.has_page() else None
    nodes = reached(fillings.first(), lambda node: fillings.leads(node))
    if any([fillings.is_lost(node) for node in nodes]):
        return None
    many = len(template.reader)
    found = []
    for (number, at), sets in _sets_by_place(nodes).items():
        marks = inside_marks(sets, many)
        found.extend([(number, at, states_of(bits)) for bits in sets if not _has_less(marks, many, bits)])
    return sorted(found)


def _has_less(marks, many, bits):
    """Whether a marked set lies inside the set without one of its states."""
    return any([bits >> state & 1 and marks[bits ^ 1 << state] for state in range(many)])


def _sets_by_place(nodes):
    """Return the dict from (number of a slot, language state) to the lists of the sets of the nodes."""
    found = {}
    for number, at, bits in nodes:
        found.setdefault((number, at), []).append(bits)
    return found


def is_fill_cover(template, value):
    """Whether the value is a fill cover of the template."""
    if not isinstance(value, list):
        return False
    fillings = Fillings(template)
    if not template.slots():
        return len(value) == 0 and fillings.has_page()
    if not all([_is_covered(template, covered) for covered in value]):
        return False
    nodes = [(number, at, bits_of(states)) for number, at, states in value]
    places = _sets_by_place(nodes)
    marks = {place: inside_marks(places[place], len(template.reader)) for place in places}
    if not _is_inside(marks, fillings.first()):
        return False
    return all([_goes_on(fillings, marks, node) for node in nodes])


def _is_covered(template, value):
    """Whether the value has the form (number of a slot, language state, set of states)."""
    if not isinstance(value, tuple) or len(value) != 3:
        return False
    number, at, states = value
    slots = template.slots()
    if not is_below(number, len(slots)) or not is_state_set(states, len(template.reader)):
        return False
    return is_below(at, len(template.language_of(slots[number])))


def _is_inside(marks, node):
    """Whether there is a tuple of the fill cover with the slot and the language state, and with a set inside."""
    number, at, bits = node
    return (number, at) in marks and marks[(number, at)][bits] == 1


def _goes_on(fillings, marks, node):
    """Whether the node has what a tuple of a fill cover must have."""
    if not fillings.is_live(node) or fillings.is_lost(node):
        return False
    behind = [after for _, after in fillings.text_leads(node)] + fillings.slot_leads(node)
    return all([_is_inside(marks, after) for after in behind])
