"""Several small templates of one reader."""

import random

from sealedslots.languages import Language
from sealedslots.templates import Template
from tests.cases import made
from tests.samples import random_readers
from tests.slow_several import SlowCourse
from tests.template_samples import random_parts, some_machines

TOLD = (None, None, "a", "a", "b", "go", "go", "stop")


def near_parts(rng, parts, chosen, machines):
    """Parts that are like the first ones, but for some languages, and silent moves that may stand there."""
    near, known = [], {}
    for part in parts:
        if rng.random() < 0.2:
            near.append(("said", ()))
        if part[0] == "slot":
            known[part[1]] = rng.choice(machines) if rng.random() < 0.5 else chosen[part[1]]
            near.append(("slot", part[1], Language(*known[part[1]])))
        elif part[0] == "said" or rng.random() < 0.7:
            near.append(part)
        else:
            near.append(("said", tuple(told for _, told in part[1] if told is not None)))
    return near, known


def random_pairs(seed, count, many=2, **more):
    """(spec, list of (Template, SlowCourse)); the readers are those of different objects."""
    rng = random.Random(seed)
    machines = some_machines(seed)
    options = dict(page_signs="pqr", density=0.9, told=TOLD)
    options.update(more)
    for spec in random_readers(seed, count, **options):
        if rng.random() < 0.85:
            spec = (spec[0], list(range(len(spec[0])))[rng.randint(0, 1):], spec[2])
        found, parts, chosen = [], None, None
        for _ in range(many):
            if parts is None or len(parts) > 6 or rng.random() < 0.5:
                parts, chosen = random_parts(rng, spec, machines)
            else:
                parts, chosen = near_parts(rng, parts, chosen, machines)
            found.append((Template(made(spec), parts), SlowCourse(spec, parts, chosen)))
        yield spec, found
