"""Pairs of small readers: many agree on all pages though their moves are not the same, or differ on long pages only."""

import random

from tests.samples import random_reader

TOLD = (None, None, "a", "b", "go")


def copied(rng, spec, most):
    """A reader with each state once or several times, in another sequence, and with moves to any of the copies."""
    states, ends, start = spec
    origin = list(range(len(states))) + [rng.randrange(len(states)) for _ in range(rng.randint(0, most - len(states)))]
    rng.shuffle(origin)
    places = {state: [at for at, old in enumerate(origin) if old == state] for state in range(len(states))}
    copies = [{sign: (rng.choice(places[after]), told) for sign, (after, told) in states[old].items()} for old in origin]
    return copies, [at for at, old in enumerate(origin) if old in ends], rng.choice(places[start])


def delayed(rng, spec):
    """Two readers that tell the same name ahead of a state, or behind it: each page that passes the state tells it."""
    states, ends, start = [dict(moves) for moves in spec[0]], list(spec[1]), spec[2]
    middle = rng.choice([state for state in range(len(states)) if state != start] or [None])
    if middle is None:
        return spec, spec
    ends = [state for state in ends if state != middle]
    name = rng.choice(["a", "b", "go"])
    early = []
    late = []
    for state, moves in enumerate(states):
        first, second = {}, {}
        for sign, (after, told) in moves.items():
            if state == middle:
                after = start if after == middle else after
                first[sign], second[sign] = (after, None), (after, name)
            elif after == middle:
                first[sign], second[sign] = (after, name), (after, None)
            else:
                first[sign] = second[sign] = after, told
        early.append(first)
        late.append(second)
    return (early, ends, start), (late, list(ends), start)


def altered(rng, spec):
    """The reader with another move, or another end."""
    states, ends, start = [dict(moves) for moves in spec[0]], list(spec[1]), spec[2]
    state, sign = rng.randrange(len(states)), rng.choice("pqr")
    what = rng.choice(["told", "told", "drop", "end", "lead"])
    if what == "end":
        ends = [at for at in ends if at != state] if state in ends else ends + [state]
    elif what == "drop":
        states[state].pop(sign, None)
    elif sign in states[state]:
        after, told = states[state][sign]
        states[state][sign] = (after, rng.choice(TOLD)) if what == "told" else (rng.randrange(len(states)), told)
    return states, ends, start


def random_changes(seed, count, page_signs="pqr", most_states=3):
    """Pairs of readers."""
    rng = random.Random(seed)
    for _ in range(count):
        spec = random_reader(rng, most_states=most_states, page_signs=page_signs, told=TOLD, density=rng.choice([0.5, 0.8]))
        one, other = delayed(rng, spec) if rng.random() < 0.6 else (spec, spec)
        other = copied(rng, other, 5)
        if rng.random() < 0.5:
            other = altered(rng, other)
        if rng.random() < 0.1:
            other = random_reader(rng, most_states=most_states, page_signs=page_signs, told=TOLD)
        if rng.random() < 0.3:
            one, other = other, one
        yield one, other
