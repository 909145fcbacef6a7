"""Doors with given writers that are often faithful, or nearly so."""

import random

from sealedslots.doors import Door
from sealedslots.given import GivenWriter
from sealedslots.languages import Language
from sealedslots.readers import Reader
from tests.samples import accepts, class_count, random_machines, words

WORDS = {"a": ["p", "p", "p", "rp", "pr"], "b": ["q", "q", "q", "rq", "qr"]}


def telling_reader(rng):
    """States in which p mostly tells a, q mostly b, r mostly nothing, and s something else."""
    many = rng.randint(1, 3)
    states = []
    for _ in range(many):
        moves = {sign: (rng.randrange(many), told) for sign, told in [("p", "a"), ("q", "b"), ("r", None)] if rng.random() < 0.97}
        if rng.random() < 0.5:
            moves["s"] = rng.randrange(many), rng.choice(["go", "a", None])
        states.append(moves)
    return states


def random_writer(rng):
    """(opening, moves, endings, number of states): one that writes at once, one that holds a sign, or anything."""
    word = {sign: rng.choice(WORDS[sign]) for sign in "ab"}
    kind = rng.choice(["plain", "plain", "late", "late", "early", "random"])
    opening, endings, moves = rng.choice(["", "", "", "r"]), {0: ""}, {}
    if kind == "plain":
        many = rng.randint(1, 3)
        moves = {(state, sign): (rng.randrange(many), word[sign]) for state in range(many) for sign in "ab"}
        endings = {state: rng.choice(["", "", "", "r"]) for state in range(many)}
    elif kind == "late":
        many, held = 3, ["", "a", "b"]
        moves = {(state, sign): (held.index(sign), word.get(held[state], "")) for state in range(3) for sign in "ab"}
        endings = {state: word.get(held[state], "") for state in range(3)}
    elif kind == "early":
        # Texts of ab again and again: b is written with a, or ahead of it.
        many = 2
        moves = {(0, "a"): (1, word["a"] + word["b"]), (1, "b"): (0, "")}
        if rng.random() < 0.3:
            opening, moves = opening + word["a"], {(0, "a"): (1, word["b"]), (1, "b"): (0, word["a"])}
        endings = {state: "" for state in range(rng.randint(1, 2))}
    else:
        many = rng.randint(1, 3)
        moves = {(state, sign): (rng.randrange(many), "".join(rng.choice("pqrs") for _ in range(rng.randint(0, 2))))
                 for state in range(many) for sign in "ab" if rng.random() < 0.9}
        endings = {state: rng.choice(["", "", "p", "r"]) for state in range(many) if rng.random() < 0.9}
    if rng.random() < 0.15 and moves:
        moves.pop(rng.choice(sorted(moves)), None)
    if rng.random() < 0.15 and moves:
        key = rng.choice(sorted(moves))
        moves[key] = rng.randrange(many), rng.choice(["", "p", "q", "s", "rp", "pq"])
    return opening, moves, endings, many


AGAIN = ("ab", [{"a": 1, "b": 2}, {"a": 2, "b": 0}, {"a": 2, "b": 2}], [0])


def given_doors(seed, count):
    """(states of the reader, state, behind, machine, writer)."""
    rng = random.Random(seed)
    machines = [machine for machine in random_machines(seed, 60) if class_count(machine) <= 6]
    machines += [AGAIN] * 20 + [("ab", [{"a": 0, "b": 1}, {"a": 1, "b": 1}], [0]), ("ab", [{"a": 0, "b": 0}], [])]
    for _ in range(count):
        states = telling_reader(rng)
        behind = [state for state in range(len(states)) if rng.random() < 0.85]
        machine, writer = rng.choice(machines), random_writer(rng)
        yield states, rng.randrange(len(states)), behind, machine, writer


def made_given(states, state, behind, machine, writer):
    """The door and the writer as the program has them."""
    opening, moves, endings, many = writer
    return Door(Reader(states), state, behind, Language(*machine)), GivenWriter(opening, moves, endings, states=many)


def has_texts(machine):
    return any(accepts(machine, text) for text in words(machine[0], 5))
