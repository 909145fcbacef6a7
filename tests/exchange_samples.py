"""Small readers with kinds, and rows of parts that sometimes replace each other."""

import random

from sealedslots.languages import Language
from tests.samples import class_count, random_readers
from tests.slow_exchange import marks_of
from tests.template_samples import some_machines

MARKS = ["go", "stop"]


# Languages that are often written: a alone, all texts of a, the empty text alone, and texts of one sign.
SIMPLE = [("a", [{"a": 1}, {"a": 2}, {"a": 2}], [1]), ("a", [{"a": 0}], [0]), ("ab", [{"a": 1, "b": 1}, {"a": 1, "b": 1}], [0]),
          ("ab", [{"a": 1, "b": 1}, {"a": 2, "b": 2}, {"a": 2, "b": 2}], [1])]


def random_kinds(rng, machines):
    """One to four kinds with different languages."""
    kinds = []
    for _ in range(rng.choice([1, 1, 2, 2, 3, 4])):
        machine = rng.choice(machines if rng.random() < 0.4 else SIMPLE)
        if all(Language(*machine) != Language(*known) for known, _ in kinds):
            kinds.append((machine, rng.randrange(5)))
    return kinds


def random_part(rng, spec, kinds, with_slot):
    known = [(sign, told) for moves in spec[0] for sign, (_, told) in moves.items() if told is None or len(told) > 1]
    what = rng.choice(["piece", "piece", "said", "said", "slot", "slot"])
    if what == "slot" and with_slot:
        return ("slot", rng.choice(["x", "y", "text"]), rng.randrange(len(kinds)))
    if what == "piece":
        moves = [rng.choice(known) if known and rng.random() < 0.9 else (rng.choice("pqz"), rng.choice([None, "go", "other"]))
                 for _ in range(rng.choice([0, 1, 1, 2]))]
        return ("piece", tuple(moves))
    return ("said", tuple(rng.choice(MARKS) for _ in range(rng.choice([0, 1, 1, 2]))))


def random_row(rng, spec, kinds, most):
    """A row of parts with at most so many parts."""
    row, free = [], True
    for _ in range(rng.randint(0, most)):
        part = random_part(rng, spec, kinds, free)
        row.append(part)
        free = (free or bool(marks_of(part))) and part[0] != "slot"
    return row


def is_row(parts):
    """Whether some mark is told between any two slots."""
    free = True
    for part in parts:
        if part[0] == "slot" and not free:
            return False
        free = part[0] != "slot" and (free or bool(marks_of(part)))
    return True


def near_row(rng, spec, kinds, row):
    """A row that is like the first one, but for a part or two."""
    row = list(row)
    for _ in range(rng.choice([0, 1, 1, 1, 2])):
        where = rng.randint(0, len(row))
        change = rng.choice(["add", "silent", "silent", "drop", "replace"])
        if change == "silent":
            row.insert(where, ("said", ()))
        elif change == "add":
            row.insert(where, random_part(rng, spec, kinds, True))
        elif row:
            del row[where - 1]
            if change == "replace":
                row.insert(max(where - 1, 0), random_part(rng, spec, kinds, True))
    return row if is_row(row) and len(row) < 13 else []


def chained_reader(rng):
    """Two states that are reached from the start, and lead to the end, by a few moves only: (states, ends, start)."""
    first, second, states = rng.randint(0, 2), rng.randint(0, 1), []
    for at in range(first + 2 + second + 1):
        moves = {}
        if at < first or at >= first + 2:
            moves["p"] = at + 1, rng.choice([None, "go", "stop", "a", "a", "b"])
            if rng.random() < 0.3:
                moves["q"] = rng.choice([at, at + 1]), rng.choice([None, "go", "a"])
        else:
            for sign in "pqr":
                if rng.random() < 0.8:
                    after = rng.choice([first, first + 1, first + 2])
                    moves[sign] = after, rng.choice([None, "go", "go", "stop", "a", "a", "b"])
        states.append(moves)
    last = len(states) - 1
    return [{sign: (min(after, last), told) for sign, (after, told) in moves.items()} for moves in states], [last], 0


def random_exchanges(seed, count, most_states=3, most=3, chain=False, **more):
    """Tuples (spec, kinds, one, other). In chains, a context often needs several parts."""
    rng = random.Random(seed)
    machines = some_machines(seed)
    options = dict(told=(None, "a", "a", "b", "go", "go", "stop"), density=0.8, page_signs="pqr", most_states=most_states)
    options.update(more)
    for spec in random_readers(seed, count, **options):
        spec = (spec[0], spec[1] or [rng.randrange(len(spec[0]))], spec[2])
        if chain:
            spec = chained_reader(rng)
        kinds = random_kinds(rng, machines)
        other = random_row(rng, spec, kinds, most)
        one = near_row(rng, spec, kinds, other) if rng.random() < 0.7 else random_row(rng, spec, kinds, most)
        yield spec, kinds, one, other


def made_kinds(kinds):
    assert all(class_count(machine) <= 6 for machine, _ in kinds)
    return [(Language(*machine), entry) for machine, entry in kinds]


def made_parts(kinds, parts):
    """The parts as the program has them."""
    return [("slot", part[1], Language(*kinds[part[2]][0])) if part[0] == "slot" else part for part in parts]


def slow_parts(kinds, parts):
    """The parts of the program as the slow ways have them."""
    languages = [Language(*machine) for machine, _ in kinds]
    return tuple(("slot", part[1], languages.index(part[2])) if part[0] == "slot" else part for part in parts)
