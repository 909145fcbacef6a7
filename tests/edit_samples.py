"""Small templates that pages fill, and documents of them."""

import random

from sealedslots.documents import Document
from sealedslots.languages import Language
from sealedslots.sealing import is_sealed
from sealedslots.templates import Template
from tests.cases import made
from tests.slow import ahead
from tests.door_samples import machine_of_texts
from tests.slow_edits import Editing, passing_words, words_by_state
from tests.slow_fill import short_fillings, slots_of, texts_by_size, texts_of_page
from tests.template_samples import random_templates

TOLD = (None, None, "a", "a", "b", "go", "go", "stop")


def filled_templates(seed, count, most, page_signs="pqr", **more):
    """(spec, parts, machines, Template, the short pages that fill it); the parts have slots for the most part."""
    rng = random.Random(seed)
    options = dict(page_signs=page_signs, density=0.9, told=TOLD)
    options.update(more)
    for spec, parts, machines in random_templates(seed, count, **options):
        if machines or rng.random() < 0.1:
            fillings = short_fillings(spec, parts, machines, page_signs, most)
            if fillings:
                yield spec, parts, machines, Template(made(spec), parts), fillings


def random_document(rng, template, parts, machines, fillings):
    """A document of the plain filling, or of a short page."""
    texts = texts_by_size(parts, machines, 4)
    if is_sealed(template) and texts and rng.random() < 0.5:
        return Document(template, dict(zip(slots_of(parts), rng.choice(texts))))
    return Document.of_page(template, rng.choice(sorted(fillings)))


def editing_of(spec, parts, machines, most):
    return Editing(spec, parts, ahead(spec, parts, machines), words_by_state(spec[0], most))


def pages_of(spec, parts, machines, most):
    """The dict from the short pages that fill the parts to their texts."""
    found = {}
    for page in passing_words(spec[0], spec[2], most):
        texts = texts_of_page(spec, parts, machines, page)
        if texts:
            found[page] = texts
    return found


def layered_reader(rng, needed):
    """A reader whose states stand in layers; needed has what the moves from each layer to the next one tell."""
    sizes = [1] + [rng.choice([1, 2, 2, 2]) for _ in needed]
    firsts = [sum(sizes[:layer]) for layer in range(len(sizes) + 1)]
    states = [{} for _ in range(firsts[-1])]
    for layer, told_names in enumerate(needed):
        for state in range(firsts[layer], firsts[layer + 1]):
            # Text signs mostly lead to different states, marks often to each of them.
            last = firsts[layer + 2] - 1
            ways = [(told, rng.randrange(firsts[layer + 1], last + 1)) for told in told_names if rng.random() < 0.8]
            if len(told_names) == 1 and rng.random() < 0.7:
                ways = [(told_names[0], after) for after in range(firsts[layer + 1], last + 1)]
            if rng.random() < 0.15:
                ways.append((None, last))
            for told, after in ways:
                free = [sign for sign in "pqrstu" if sign not in states[state]]
                states[state][rng.choice(free)] = after, told
    return states, list(range(firsts[-2], firsts[-1])), 0


ONE_OF = {"ab": machine_of_texts(["a", "b"]), "a": machine_of_texts(["a"]), "a-": machine_of_texts(["a", ""]),
          "abc": machine_of_texts(["a", "b", "ab"])}


def layered_templates(seed, count):
    """Templates in which each part takes a move or two, and the next words depend on where it led."""
    rng = random.Random(seed)
    for _ in range(count):
        parts, machines, needed = [], {}, []
        for _ in range(rng.randint(2, 5)):
            kind = rng.choice(["slot", "slot", "go", "go", "stop", "silent", "piece"])
            if kind == "slot" and len(machines) < 4:
                if machines and needed[-1] not in (["go"], ["stop"]):
                    parts.append(("said", ("go",)))
                    needed.append(["go"])
                name, which = "wxyz"[len(machines)], rng.choice(["ab", "ab", "ab", "ab", "a", "a-", "abc"])
                machines[name] = ("ab",) + ONE_OF[which]
                parts.append(("slot", name, Language(*machines[name])))
                needed.append(["a", "b"] if "b" in which else ["a"])
            elif kind in ("go", "stop"):
                parts.append(("said", (kind,)))
                needed.append([kind])
            elif kind == "silent":
                parts.append(("said", ()))
                needed.append([None])
            elif kind == "piece":
                parts.append(("piece", ((rng.choice("pq"), "go"),)))
                needed.append(["go"])
        if not machines or len(needed) > 5:
            continue
        spec = layered_reader(rng, needed)
        fillings = pages_of(spec, parts, machines, 8)
        if fillings:
            yield spec, parts, machines, Template(made(spec), parts), fillings


def choosing_templates(seed, count):
    """Templates of marks and slots in turn: often each text is written from one of two states that a mark leads to."""
    rng = random.Random(seed)
    for _ in range(count):
        parts, machines, states = [], {}, [{}, {}]
        many = rng.choice([1, 2, 2])
        for name in "xy"[:many]:
            machines[name] = ("ab",) + ONE_OF["ab"]
            parts += [("said", ("go",)), ("slot", name, Language(*machines[name]))]
            first = len(states)
            states += [{}, {}, {}, {}]
            for state in (first - 2, first - 1):
                for sign, after in zip("qr", (first, first + 1)):
                    if rng.random() < 0.8:
                        states[state][sign] = after, "go"
            for state, sure in ((first, "a"), (first + 1, "b")):
                for sign, told in zip("ps", "ab"):
                    if told == sure or rng.random() < 0.3:
                        states[state][sign] = rng.choice([first + 2, first + 3]), told
                if rng.random() < 0.2:
                    states[state]["t"] = rng.choice([first + 2, first + 3]), rng.choice("ab")
        spec = states, [len(states) - 2, len(states) - 1], rng.choice([0, 1])
        fillings = pages_of(spec, parts, machines, 8)
        if fillings:
            yield spec, parts, machines, Template(made(spec), parts), fillings
