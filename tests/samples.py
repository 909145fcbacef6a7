"""Small readers and machines of texts, and slow ways to compute what the program computes.

Nothing here uses the program: a reader is a tuple (states, ends, start), a machine a tuple (signs, states, members).
"""

import itertools
import random

# Values of many kinds, none of which is a state, a sign, a mark or a word.
OTHER_VALUES = [None, True, False, -1, b"a", b"", [], ["a"], (), ("a",), {}, {"a": 1}, {1}, set(), [[]], ([],), object(),
                "A", "aB", "a b", "a1", "1", " ", "-", "\n", "a\n", int, len, 10 ** 29]


def words(signs, most):
    """All words of the signs with at most so many signs, by length and then in the order of strings."""
    for length in range(most + 1):
        for letters in itertools.product(sorted(signs), repeat=length):
            yield "".join(letters)


def walk(states, state, word):
    """(row, last state), or the position of the first sign without a move."""
    row = []
    for place, sign in enumerate(word):
        if sign not in states[state]:
            return place
        state, told = states[state][sign]
        if told is not None:
            row.append(told)
    return tuple(row), state


def read(spec, page):
    """The reading, or the position at which the page is unreadable."""
    states, ends, start = spec
    found = walk(states, start, page)
    if isinstance(found, int):
        return found
    row, last = found
    return row if last in ends else len(page)


def random_reader(rng, most_states=3, page_signs="pqr", told=(None, None, "a", "b", "go", "stop"), density=0.7):
    """A small reader with silent moves and missing moves."""
    many = rng.randint(1, most_states)
    states = [{sign: (rng.randrange(many), rng.choice(told)) for sign in page_signs if rng.random() < density}
              for _ in range(many)]
    ends = [state for state in range(many) if rng.random() < 0.4]
    rng.shuffle(ends)
    return states, ends, rng.randrange(many)


def random_readers(seed, count, **more):
    rng = random.Random(seed)
    return [random_reader(rng, **more) for _ in range(count)]


def random_machine(rng, most_states, signs):
    many = max(rng.randint(1, most_states), rng.randint(1, most_states))
    states = [{sign: rng.randrange(many) for sign in signs} for _ in range(many)]
    chance = rng.choice([0.2, 0.5, 0.5, 0.8])
    found = [state for state in range(many) if rng.random() < chance]
    rng.shuffle(found)
    return signs, states, found


def random_machines(seed, count, most_states=4, signs="ab"):
    rng = random.Random(seed)
    return [random_machine(rng, most_states, signs) for _ in range(count)]


def copied_machine(rng, machine, most_states):
    """A machine of the same texts with its states several times, in another sequence."""
    signs, states, found = machine
    origin = [0] + [rng.randrange(len(states)) for _ in range(most_states - 1)]
    for state in range(len(states)):
        if state not in origin:
            origin[rng.randrange(1, len(origin))] = state
    places = {state: [at for at, old in enumerate(origin) if old == state] for state in range(len(states))}
    if not all(places.values()):
        return machine
    copies = [{sign: rng.choice(places[states[old][sign]]) for sign in signs} for old in origin]
    return signs, copies, [at for at, old in enumerate(origin) if old in found]


def accepts(machine, text):
    signs, states, found = machine
    state = 0
    for sign in text:
        state = states[state][sign]
    return state in found


def class_count(machine):
    """The number of states of the least machine, by a table of the pairs that some text tells apart."""
    signs, states, found = machine
    met = {0}
    for _ in states:
        met |= {states[state][sign] for state in met for sign in signs}
    apart = {(p, q) for p in met for q in met if (p in found) != (q in found)}
    for _ in states:
        apart |= {(p, q) for p in met for q in met for sign in signs if (states[p][sign], states[q][sign]) in apart}
    return len({min(q for q in met if (p, q) not in apart) for p in met})
