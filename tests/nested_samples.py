"""Small nestings, and templates of their inner readers."""

import random

from sealedslots.languages import Language
from tests.samples import class_count, random_machines, random_reader
from tests.template_samples import random_parts, some_machines


def least(machine):
    """The least machine of the texts, with its numbering."""
    language = Language(*machine)
    states = [{sign: language.move(state, sign) for sign in language.signs} for state in range(len(language))]
    return language.signs, states, [state for state in range(len(language)) if language.is_member(state)]


EVERY = ("ab", [{"a": 0, "b": 0}], [0])
SOME = [EVERY, EVERY, EVERY, ("abc", [{"a": 0, "b": 0, "c": 0}], [0]), ("a", [{"a": 0}], [0]),
        ("ab", [{"a": 1, "b": 1}, {"a": 0, "b": 0}], [0])]


def outer_reader(rng, most_states):
    """A reader that mostly tells a and b, often in each state."""
    many = rng.randint(1, most_states)
    states = []
    for _ in range(many):
        moves = {"p": (rng.randrange(many), "a"), "q": (rng.randrange(many), "b")}
        moves["r"] = rng.randrange(many), rng.choice([None, None, "a", "b", "go", "c"])
        moves["s"] = rng.randrange(many), rng.choice([None, "a", "b"])
        states.append({sign: move for sign, move in moves.items() if rng.random() < 0.85})
    told = {move[1] for moves in states for move in moves.values()}
    if not {"a", "b"} <= told:
        states[0].update({"p": (0, "a"), "q": (many - 1, "b")})
    return states, list(range(many)), 0


def random_nestings(seed, count, most_states=3, inner_states=3, machines=None, **more):
    """Tuples (outer spec, state, behind, least machine, inner spec)."""
    rng = random.Random(seed)
    known = [least(machine) for machine in random_machines(seed, 60) if class_count(machine) <= 6]
    options = dict(page_signs="ab", told=(None, None, "a", "a", "b", "go", "go", "stop"), density=0.9)
    options.update(more)
    for _ in range(count):
        outer = outer_reader(rng, most_states)
        inner = random_reader(rng, most_states=inner_states, **options)
        if rng.random() < 0.7:
            inner = (inner[0], list(range(len(inner[0])))[rng.randint(0, 1):] or [0], inner[2])
        behind = [state for state in range(len(outer[0])) if rng.random() < 0.8]
        machine = rng.choice(machines or SOME) if rng.random() < 0.75 else rng.choice(known)
        yield outer, rng.randrange(len(outer[0])), behind, machine, inner


def nested_templates(seed, count, **more):
    """Tuples (nesting, parts, machines of the slots)."""
    rng = random.Random(seed)
    machines = some_machines(seed)
    for nesting in random_nestings(seed + 1, count, **more):
        yield (nesting,) + random_parts(rng, nesting[4], machines)
