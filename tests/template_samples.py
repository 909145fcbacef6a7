"""Small templates, with the machines of the languages of their slots."""

import random

from sealedslots.languages import Language
from tests.samples import accepts, class_count, random_machines, random_readers, words

MARKS = ["go", "stop"]


def random_piece(rng, spec):
    """A piece that mostly follows moves of the reader."""
    states = spec[0]
    state, moves = rng.randrange(len(states)), []
    for _ in range(rng.choice([0, 1, 1, 2, 3])):
        known = [(sign, move) for sign, move in states[state].items() if move[1] is None or len(move[1]) > 1]
        if known and rng.random() < 0.9:
            sign, (state, told) = rng.choice(known)
        else:
            sign, told = rng.choice("pqz"), rng.choice([None, "go", "other"])
        moves.append((sign, told))
    return ("piece", tuple(moves))


def random_parts(rng, spec, machines):
    """Parts that make a template, and the machines of their slots."""
    parts, chosen = [], {}
    for _ in range(rng.randint(1, 5)):
        kind = rng.choice(["piece", "said", "slot"])
        if kind == "slot" and len(chosen) < 3:
            if chosen:
                parts.append(("said", (rng.choice(MARKS),)))
            name = "wxyz"[len(chosen)]
            chosen[name] = rng.choice(machines)
            parts.append(("slot", name, Language(*chosen[name])))
        elif kind == "piece":
            parts.append(random_piece(rng, spec))
        else:
            parts.append(("said", tuple(rng.choice(MARKS) for _ in range(rng.choice([0, 1, 1, 2])))))
    return parts, chosen


def some_machines(seed, signs="ab"):
    machines = [(signs, [{sign: 0 for sign in signs}], [0]), (signs, [{sign: 1 for sign in signs} for _ in range(2)], [0])]
    machines += [machine for machine in random_machines(seed, 80, signs=signs) if class_count(machine) <= 6]
    return [machine for machine in machines if any(accepts(machine, text) for text in words(signs, 5))]


def random_templates(seed, count, **more):
    """Tuples (spec, parts, machines of the slots)."""
    rng = random.Random(seed)
    machines = some_machines(seed)
    options = dict(told=(None, "a", "a", "b", "b", "go", "go", "stop"), density=0.85, page_signs="pqrst")
    options.update(more)
    for spec in random_readers(seed, count, **options):
        if rng.random() < 0.85:
            spec = (spec[0], list(range(len(spec[0])))[rng.randint(0, 1):], spec[2])
        yield (spec,) + random_parts(rng, spec, machines)
