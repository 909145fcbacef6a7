"""Small templates, with the machines of the languages of their slots."""

import random

from sealedslots.languages import Language
from tests.door_samples import machine_of_texts
from tests.samples import accepts, class_count, random_machines, random_readers, words

MARKS = ["go", "stop"]


def random_piece(rng, spec):
    """A piece that mostly follows moves of the reader."""
    states = spec[0]
    state, moves = rng.randrange(len(states)), []
    for _ in range(rng.choice([0, 1, 1, 2, 3])):
        known = [(sign, move) for sign, move in states[state].items() if move[1] is None or len(move[1]) > 1]
        if known and rng.random() < 0.9:
            sign, (state, told) = rng.choice(known)
        else:
            sign, told = rng.choice("pqz"), rng.choice([None, "go", "other"])
        moves.append((sign, told))
    return ("piece", tuple(moves))


def random_separator(rng, spec):
    """A part that tells a mark: said, or a piece of one move of the reader."""
    known = [(sign, told) for moves in spec[0] for sign, (_, told) in moves.items() if told in MARKS]
    if known and rng.random() < 0.4:
        return ("piece", (rng.choice(known),))
    return ("said", (rng.choice(MARKS),))


def random_parts(rng, spec, machines):
    """Parts that make a template, and the machines of their slots."""
    parts, chosen = [], {}
    for _ in range(rng.randint(1, 5)):
        kind = rng.choice(["piece", "said", "slot"])
        if kind == "slot" and len(chosen) < 3:
            if chosen:
                parts.append(random_separator(rng, spec))
            name = "wxyz"[len(chosen)]
            chosen[name] = rng.choice(machines)
            parts.append(("slot", name, Language(*chosen[name])))
        elif kind == "piece":
            parts.append(random_piece(rng, spec))
        else:
            parts.append(("said", tuple(rng.choice(MARKS) for _ in range(rng.choice([0, 1, 1, 2])))))
    return parts, chosen


def some_machines(seed, signs="ab"):
    machines = [(signs, [{sign: 0 for sign in signs}], [0]), (signs, [{sign: 1 for sign in signs} for _ in range(2)], [0])]
    machines += [machine for machine in random_machines(seed, 80, signs=signs) if class_count(machine) <= 6]
    return [machine for machine in machines if any(accepts(machine, text) for text in words(signs, 5))]


def random_templates(seed, count, **more):
    """Tuples (spec, parts, machines of the slots)."""
    rng = random.Random(seed)
    machines = some_machines(seed)
    options = dict(told=(None, "a", "a", "b", "b", "go", "go", "stop"), density=0.85, page_signs="pqrst")
    options.update(more)
    for spec in random_readers(seed, count, **options):
        if rng.random() < 0.85:
            spec = (spec[0], list(range(len(spec[0])))[rng.randint(0, 1):], spec[2])
        yield (spec,) + random_parts(rng, spec, machines)


# The text of x is written without a look-ahead into 6, from where the text of y needs one; or the other way round.
STATES = [{"p": (1, "a"), "q": (2, "a"), "r": (3, "a")}, {"p": (5, "a")}, {"p": (5, "b")}, {"p": (6, "a"), "q": (6, "b")},
          {"p": (11, "b")}, {"r": (7, "go")}, {"r": (8, "go")}, {"p": (9, "a")}, {"p": (10, "a"), "q": (4, "a")},
          {"p": (11, "a"), "q": (11, "b")}, {"p": (11, "a")}, {}]
BOTH = ["aa", "ab"]


def other_templates(seed, count):
    """Templates like the one above, with some other moves and texts: (spec, parts, machines)."""
    rng = random.Random(seed)
    for _ in range(count):
        states = [dict(moves) for moves in STATES]
        for _ in range(rng.choice([0, 1, 1, 2, 3])):
            states[rng.randrange(12)][rng.choice("pqrstu")] = rng.randrange(12), rng.choice([None, "a", "a", "b", "b", "go"])
        parts, machines = [], {}
        for name in rng.choice(["xy", "xy", "xy", "yx", "x"]):
            tree, ends = machine_of_texts(rng.choice([BOTH, BOTH, BOTH, BOTH, ["aa"], ["aa", "ab", "a"], ["ab", ""]]))
            machines[name] = ("ab", tree, ends)
            parts += [("slot", name, Language("ab", tree, ends)), ("said", ("go",))]
        yield (states, [5, 6, 9, 11], rng.choice([0, 0, 0, 5])), parts[:-1], machines
