"""Slow ways to compute what exchanges promise, without the program.

Kinds are lists of tuples (machine, entry). A slot is a tuple ("slot", name, index of its kind); the other parts and the
readers are as in samples.
"""

import itertools

from tests.slow import part_ends
from tests.slow_games import is_written


class Rows:
    """A reader with kinds; what was computed for one part and one set is kept."""

    def __init__(self, spec, kinds):
        self.states, self.ends, self.start = spec
        self.kinds = kinds
        self.known = {}

    def part_ahead(self, part, behind):
        if part[0] == "slot":
            part = ("slot", "s", part[2])
        key = part, behind
        if key not in self.known:
            self.known[key] = tuple(state for state in range(len(self.states)) if self.is_ahead(part, state, behind))
        return self.known[key]

    def is_ahead(self, part, state, behind):
        if part[0] != "slot":
            return bool(part_ends(self.states, part, state) & set(behind))
        machine, entry = self.kinds[part[2]]
        return is_written(self.states, state, behind, machine, entry)

    def ahead(self, parts, behind):
        for part in reversed(parts):
            behind = self.part_ahead(part, behind)
        return behind

    def is_sealed(self, parts):
        return self.start in self.ahead(parts, tuple(sorted(self.ends)))

    def single_parts(self):
        """All single parts, by the words of [31]."""
        signs = sorted({sign for moves in self.states for sign in moves})
        marks = sorted({told for moves in self.states for _, told in moves.values() if told is not None and len(told) > 1})
        parts = [("piece", ((sign, told),)) for sign in signs for told in [None] + marks]
        parts += [("said", ())] + [("said", (mark,)) for mark in marks]
        return parts + [("slot", "s", number) for number in range(len(self.kinds))]

    def followers(self, node):
        """What [32] demands of a tail or a pair, but for the pairs of the rows."""
        for part in self.single_parts():
            if part[0] != "slot":
                told = marks_of(part)
                yield tuple(self.part_ahead(part, chosen) for chosen in node[:-1]) + (True if told else node[-1],)
            elif node[-1]:
                yield tuple(self.part_ahead(part, chosen) for chosen in node[:-1]) + (False,)

    def exchange(self, one, other):
        """(the tails, the pairs) that follow, as sets."""
        found, waiting = set(), [(tuple(sorted(self.ends)), True)]
        while waiting:
            node = waiting.pop()
            if node not in found:
                found.add(node)
                waiting.extend(self.followers(node))
                if len(node) == 2 and node[1]:
                    waiting.append((self.ahead(one, node[0]), self.ahead(other, node[0]), False))
        return {node for node in found if len(node) == 2}, {node for node in found if len(node) == 3}

    def parts_them(self, pairs):
        return any(self.start in second and self.start not in first for first, second, _ in pairs)

    def is_exchange(self, one, other, tails, pairs):
        """[32] for lists of the right form, property by property."""
        if (tuple(sorted(self.ends)), True) not in tails:
            return False
        for node in tails:
            if not all(after in tails for after in self.followers(node)):
                return False
            if node[1] and (self.ahead(one, node[0]), self.ahead(other, node[0]), False) not in pairs:
                return False
        for node in pairs:
            if not all(after in pairs for after in self.followers(node)):
                return False
        return not self.parts_them(pairs)

    def contexts(self, many):
        """All contexts of exactly so many single parts."""
        for chosen in itertools.product(self.single_parts(), repeat=many):
            for at in range(many + 1):
                if is_context(chosen[:at], chosen[at:]):
                    yield chosen[:at], chosen[at:]

    def is_parting(self, one, other, context):
        head, tail = context
        return self.is_sealed([*head, *other, *tail]) and not self.is_sealed([*head, *one, *tail])


def marks_of(part):
    if part[0] == "piece":
        return [told for _, told in part[1] if told is not None]
    return list(part[1]) if part[0] == "said" else []


def is_context(head, tail):
    """[31] by the words: s for a slot and m for a part that tells marks, in sequence."""
    def letters(parts):
        return "".join("s" if part[0] == "slot" else "m" for part in parts if part[0] == "slot" or marks_of(part))

    return "ss" not in letters(head) + "|" + letters(tail) and not letters(head).endswith("s") and (
        not letters(tail).startswith("s"))
