"""Small doors, with the machines of their languages."""

import itertools
import random

from sealedslots.doors import Door
from sealedslots.languages import Language
from sealedslots.readers import Reader
from tests.cases import made
from tests.samples import class_count, random_machines, random_readers

NONE, EMPTY, EVERY = ("ab", [{"a": 0, "b": 0}], []), ("ab", [{"a": 1, "b": 1}, {"a": 1, "b": 1}], [0]), (
    "ab", [{"a": 0, "b": 0}], [0])
ONE = ("ab", [{"a": 1, "b": 2}, {"a": 2, "b": 2}, {"a": 2, "b": 2}], [1])


def small_doors(seed, count, **more):
    """Small readers, each with a few states behind and languages: (spec, state, behind, machine)."""
    rng = random.Random(seed)
    machines = [NONE, EMPTY, EVERY, ONE] + [machine for machine in random_machines(seed, 60) if class_count(machine) <= 6]
    for spec in random_readers(seed, count, **more):
        many = len(spec[0])
        for machine in rng.sample(machines, 6):
            behind = [state for state in range(many) if rng.random() < 0.6]
            rng.shuffle(behind)
            yield spec, rng.randrange(many), behind, machine


def door_of(spec, state, behind, machine):
    return Door(made(spec), state, behind, Language(*machine))


# Written with 3 and not with 2: the first sign must be written as the fourth one asks for.
LATE = Reader([{"p": (1, "a"), "q": (4, "a")}, {"p": (2, "a")}, {"p": (3, "a")}, {"p": (7, "a")}, {"p": (5, "a")}, {"p": (6, "a")},
               {"p": (7, "b")}, {}])
FOURTH = Door(LATE, 0, [7], Language.of("ab", "aaaa", "aaab"))

# Written with 4 and not with 3: whether a text ends with b is not known before the end, which may be far.
BRANCHES = Reader([{"p": (1, "a"), "q": (2, "a")}, {"p": (1, "a")}, {"p": (2, "a"), "q": (3, "b")}, {}])
A_THEN_B = Language("ab", [{"a": 1, "b": 3}, {"a": 1, "b": 2}, {"a": 3, "b": 3}, {"a": 3, "b": 3}], [1, 2])
FAR = Door(BRANCHES, 0, [1, 3], A_THEN_B)

# Written with none: no b can follow.
LACKING = Door(BRANCHES, 1, [1, 3], A_THEN_B)


def guessing_reader(rng, texts, groups):
    """A reader that has to guess, at each sign, which of the groups a text belongs to: (states, states behind)."""
    states, behind = [{}], []
    for group in range(groups):
        nodes = {"": 0}
        for text in texts:
            if rng.randrange(groups) != group and rng.random() < 0.9:
                continue
            for end in range(1, len(text) + 1):
                before, node = nodes[text[:end - 1]], text[:end]
                free = [sign for sign in "pqrstu" if sign not in states[before]]
                if node not in nodes and free:
                    nodes[node] = rng.randrange(len(states)) if len(states) > 11 or rng.random() < 0.1 else len(states)
                    if nodes[node] == len(states):
                        states.append({})
                    states[before][rng.choice(free)] = nodes[node], text[end - 1]
                elif node not in nodes:
                    break
            else:
                behind.append(nodes[text])
    return states, sorted(set(behind))


def guessing_doors(seed, count):
    """Doors that often need a look-ahead: (spec, state, behind, machine); the language has the texts of the reader."""
    rng = random.Random(seed)
    for _ in range(count):
        texts = rng.sample([text for length in range(5) for text in map("".join, itertools.product("ab", repeat=length))],
                           rng.randint(2, 5))
        states, behind = guessing_reader(rng, texts, rng.choice([2, 2, 3]))
        tree, ends = machine_of_texts(texts)
        if class_count(("ab", tree, ends)) <= 6:
            yield (states, behind, 0), 0, behind, ("ab", tree, ends)


def machine_of_texts(texts):
    """(states, members) of a machine of exactly these texts over ab."""
    begun = sorted({text[:end] for text in texts for end in range(len(text) + 1)}, key=lambda text: (len(text), text))
    numbers = {text: number for number, text in enumerate(begun)}
    lost = len(numbers)
    states = [{sign: numbers.get(text + sign, lost) for sign in "ab"} for text in begun] + [{"a": lost, "b": lost}]
    return states, [numbers[text] for text in texts]
