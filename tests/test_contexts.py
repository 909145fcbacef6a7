"""[31] Contexts that part rows: compared with all contexts of few single parts, and with a slow search."""

import itertools
import random
import unittest

from sealedslots.exchange import exchange, is_parting, parting_context, replaces
from sealedslots.languages import Language
from sealedslots.readers import Reader
from tests.cases import Case, made
from tests.exchange_samples import made_kinds, made_parts, random_exchanges, random_part, slow_parts
from tests.samples import OTHER_VALUES
from tests.slow_exchange import Rows, is_context

GO, STOP, NOTHING = ("said", ("go",)), ("said", ("stop",)), ("said", ())
EVERY, ONE = Language.every("a"), Language.of("a", "a")


def samples(seed, count, **more):
    return itertools.chain(random_exchanges(seed, count, **more), random_exchanges(seed + 1, count, chain=True, **more))


def fewest_parts(rows, one, other):
    """The number of parts of the least context that parts the rows, None if there is none: by levels of tails and pairs."""
    tails, pairs = {(tuple(sorted(rows.ends)), True)}, set()
    level, many = set(tails), 0
    pair_level = set()
    while level or pair_level:
        pair_level |= {(rows.ahead(one, node[0]), rows.ahead(other, node[0]), False) for node in level if node[1]}
        if rows.parts_them(pair_level):
            return many
        pairs |= pair_level
        level = {after for node in level for after in rows.followers(node)} - tails
        tails |= level
        pair_level = {after for node in pair_level for after in rows.followers(node)} - pairs
        many += 1
    return None


class SlowTest(Case):
    def test_contexts_that_are_found(self):
        counts, slots = {}, 0
        for spec, kinds, one, other in samples(311, 600):
            rows, reader, program_kinds = Rows(spec, kinds), made(spec), made_kinds(kinds)
            first, second = made_parts(kinds, one), made_parts(kinds, other)
            found = parting_context(reader, program_kinds, first, second)
            wanted = fewest_parts(rows, one, other)
            self.assertEqual(None if found is None else len(found[0]) + len(found[1]), wanted)
            counts[wanted] = counts.get(wanted, 0) + 1
            self.assertIs(replaces(reader, program_kinds, first, second), found is None)
            if found is None:
                continue
            self.assertEqual([type(found)] + [type(parts) for parts in found], [tuple] * 3)
            context = tuple(slow_parts(kinds, parts) for parts in found)
            self.assertTrue(is_context(*context))
            self.assertTrue(rows.is_parting(one, other, context))
            self.assertIs(is_parting(reader, program_kinds, first, second, found), True)
            self.assertIs(is_parting(reader, program_kinds, second, first, found), False)
            names = [part[1] for parts in context for part in parts if part[0] == "slot"]
            self.assertEqual(len(set(names)), len(names))
            slots += len(names)
            single = rows.single_parts()
            for part in context[0] + context[1]:
                self.assertIn(("slot", "s", part[2]) if part[0] == "slot" else part, single)
        self.assertGreater(counts[None], 300)
        self.assertGreater(min(counts[many] for many in range(4)), 4, counts)
        self.assertGreater(slots, 8)

    def test_all_short_contexts(self):
        parted, sealed = 0, 0
        for spec, kinds, one, other in samples(313, 60):
            rows, reader, program_kinds = Rows(spec, kinds), made(spec), made_kinds(kinds)
            first, second = made_parts(kinds, one), made_parts(kinds, other)
            replaced = replaces(reader, program_kinds, first, second)
            for many in range(3):
                for head, tail in rows.contexts(many):
                    wanted = rows.is_parting(one, other, (head, tail))
                    self.assertFalse(replaced and wanted)
                    parted += wanted
                    if wanted or (parted + sealed) % 7 == 0:
                        value = tuple(made_parts(kinds, head)), tuple(made_parts(kinds, tail))
                        self.assertIs(is_parting(reader, program_kinds, first, second, value), wanted)
                    sealed += not wanted
        self.assertGreater(parted, 300)

    def test_any_contexts(self):
        rng = random.Random(315)
        counts = {True: 0, False: 0, "none": 0}
        for spec, kinds, one, other in samples(316, 250):
            rows, reader, program_kinds = Rows(spec, kinds), made(spec), made_kinds(kinds)
            first, second = made_parts(kinds, one), made_parts(kinds, other)
            for _ in range(12):
                head, tail = [[random_part(rng, spec, kinds, rng.random() < 0.6) for _ in range(rng.randint(0, 3))] for _ in range(2)]
                wanted = is_context(head, tail) and rows.is_parting(one, other, (head, tail))
                value = tuple(made_parts(kinds, head)), tuple(made_parts(kinds, tail))
                self.assertIs(is_parting(reader, program_kinds, first, second, value), wanted)
                counts[wanted if is_context(head, tail) else "none"] += 1
        self.assertGreater(min(counts.values()), 60, counts)


class ExamplesTest(Case):
    """A chain: p tells go, then a, then stop; r tells nothing at the beginning."""

    READER = Reader([{"p": (1, "go"), "r": (0, None)}, {"p": (2, "a")}, {"p": (3, "stop")}, {"q": (4, None)}, {}], [4])
    KINDS = [(ONE, 0), (EVERY, 4)]

    def test_a_slot_that_must_stand_in_the_context(self):
        silent = ("piece", (("q", None),))
        found = parting_context(self.READER, self.KINDS, [silent, silent], [silent])
        # Between go and stop there is one sign a, which only a slot of the first kind writes.
        head, tail = found
        self.assertEqual((head[1][0], head[1][2], tail), ("slot", ONE, ()))
        self.assertEqual(len(head), 3)
        self.assertIs(is_parting(self.READER, self.KINDS, [silent, silent], [silent], found), True)
        self.assertIsNone(parting_context(self.READER, [(EVERY, 4)], [silent, silent], [silent]))
        self.assertIs(replaces(self.READER, [(EVERY, 4)], [silent, silent], [silent]), True)
        self.assertIs(replaces(self.READER, self.KINDS, [silent, silent], [silent]), False)

    def test_a_slot_in_the_tail(self):
        one, other = [("piece", (("r", None),)), ("piece", (("p", "go"), ("p", None)))], [NOTHING]
        found = parting_context(self.READER, self.KINDS, one, other)
        head, tail = found
        self.assertEqual(head, ())
        self.assertEqual([part[0] for part in tail if part[0] == "slot"], ["slot"])
        self.assertNotEqual(tail[0][0], "slot")
        self.assertIs(is_parting(self.READER, self.KINDS, one, other, found), True)

    def test_many_slots_have_different_names(self):
        # Marks and texts take turns, so the least context has two slots of the one kind.
        moves = [{"p": (1, "go")}, {"p": (2, "a")}, {"p": (3, "go")}, {"p": (4, "a")}, {"p": (5, "go")}, {"p": (0, None), "q": (5, None)}]
        reader, kinds = Reader(moves, [5]), [(ONE, 0)]
        one, other = [("piece", (("p", None),))], [NOTHING]
        head, tail = parting_context(reader, kinds, one, other)
        names = [part[1] for part in head + tail if part[0] == "slot"]
        self.assertEqual((len(names), len(set(names))), (2, 2))

    def context(self):
        silent = ("piece", (("q", None),))
        return [silent, silent], [silent], ((GO, ("slot", "x", ONE), STOP), ())

    def test_other_contexts_that_part(self):
        one, other, (head, tail) = self.context()
        good = [(head, tail), (head, (NOTHING, NOTHING)), ((NOTHING,) + head, tail), (head + (("piece", ()),), tail),
                ((("piece", (("r", None), ("p", "go"))), ("slot", "x", ONE), STOP), ()),
                ((GO, NOTHING, ("slot", "longname", ONE), NOTHING, STOP, NOTHING), (NOTHING,) * 80),
                ((("piece", (("r", None),) * 11 + (("p", "go"),)), ("slot", "x", ONE), ("said", ("stop",))), ())]
        for value in good:
            self.assertIs(is_parting(self.READER, self.KINDS, one, other, value), True, value)
            self.assertIs(is_parting(value=value, other=other, one=one, kinds=self.KINDS, reader=self.READER), True)
            self.assertIs(is_parting(self.READER, self.KINDS, other, one, value), False)
            self.assertIs(is_parting(self.READER, self.KINDS, other, other, value), False)

    def test_equal_names(self):
        reader = Reader([{"p": (1, "a")}, {"p": (2, "go")}, {"p": (3, "a")}, {"p": (4, "go")}, {"q": (5, None)}, {}], [5])
        slot = ("slot", "x", ONE)
        value = ((slot, GO, slot, GO), ())
        self.assertIs(is_parting(reader, self.KINDS, [GO], [NOTHING], value), True)
        renamed = ((slot, GO, ("slot", "y", ONE), GO), ())
        self.assertIs(is_parting(reader, self.KINDS, [GO], [NOTHING], renamed), True)

    def test_marks_that_are_missing(self):
        reader = Reader([{"p": (0, "a"), "q": (0, "go"), "r": (1, "go")}, {"p": (1, "a")}], [1])
        slot, one, other = ("slot", "x", EVERY), [GO, GO, GO, ("said", ("stop",))], [GO]
        for head, tail in [((), (GO, slot)), ((slot, GO), ()), ((slot, GO, slot, GO), (GO, slot, GO, slot)), ((), (NOTHING,))]:
            self.assertIs(is_parting(reader, self.KINDS, one, other, (head, tail)), True)
        for head, tail in [((), (slot,)), ((), (NOTHING, slot, GO)), ((slot,), ()), ((GO, slot, NOTHING), ()),
                           ((slot, NOTHING, slot, GO), ()), ((slot, slot, GO), ()), ((), (GO, slot, slot)),
                           ((), (GO, slot, ("piece", ()), slot))]:
            self.assertIs(is_parting(reader, self.KINDS, one, other, (head, tail)), False)
        # The mark behind the head and the one ahead of the tail are needed even if the rows tell marks, or have no slot.
        self.assertIs(is_parting(reader, self.KINDS, one, other, ((slot, ("piece", (("q", "go"),))), (("piece", (("r", "go"),)), slot))), True)

    def test_values_that_are_none(self):
        one, other, (head, tail) = self.context()
        slot = head[1]
        bad = [[head, tail], (list(head), tail), (head, list(tail)), (head,), (head, tail, ()), (tail, head), ((), ()),
               (head, None), ({}, {}), (head + (("slot", "y", EVERY),), tail), ((GO, slot, STOP, 5), tail), "ab",
               ((GO, ("slot", "X", ONE), STOP), tail), ((GO, ("slot", "x", Language.of("a", "aa")), STOP), tail),
               ((GO, ("slot", "x", Language.of("ab", "a")), STOP), tail), ((GO, list(slot), STOP), tail),
               ((("said", ["go"]), slot, STOP), tail), ((("said", ("go",) * 7), slot, STOP), tail),
               ((("piece", (("r", None),) * 12 + (("p", "go"),)), slot, STOP), tail), ((GO, ("slot", "x"), STOP), tail),
               (head, (STOP,)), (head + (STOP,), ()), ((GO, GO) + head, tail), ((), head)]
        for value in bad + OTHER_VALUES + [(value, tail) for value in OTHER_VALUES if value != ()]:
            self.assertIs(is_parting(self.READER, self.KINDS, one, other, value), False, value)
        for value in OTHER_VALUES:
            self.assertIs(is_parting(self.READER, self.KINDS, one, other, (head, (value,))), False)
            self.assertIs(is_parting(self.READER, self.KINDS, one, other, (head[:1] + (("slot", "x", value),) + head[2:], tail)), False)

    def test_no_limit_of_six_states(self):
        many = 12
        reader = Reader([{"p": (min(state + 1, many - 1), "go"), "q": (state, "a")} for state in range(many)], [many - 1])
        one, other = [NOTHING], [("said", ("go",) * 3)]
        value = (tuple([("slot", "x", EVERY), GO] * 4), (GO,) * 4 + (("slot", "x", EVERY),))
        self.assertIs(is_parting(reader, self.KINDS, one, other, value), True)
        self.assertIs(is_parting(reader, self.KINDS, other, one, value), False)


class ChainsTest(unittest.TestCase):
    def test_a_long_context(self):
        # Each of the five marks on the way to the rows needs a part of its own.
        reader = Reader([{"p": (1, "go")}, {"p": (2, "go")}, {"p": (3, "go")}, {"p": (4, "go")}, {"p": (5, "go"), "q": (4, None)}, {}], [5])
        kinds = [(ONE, 0)]
        one, other = [("piece", (("q", None),) * 2)], [("piece", ())]
        self.assertIs(replaces(reader, kinds, one, [("piece", (("q", None),))]), True)
        head, tail = parting_context(reader, kinds, one + [("piece", (("p", None),))], other)
        self.assertEqual(len(head) + len(tail), 5)
        self.assertIsNone(exchange(reader, kinds, one + [("piece", (("p", None),))], other))


if __name__ == "__main__":
    unittest.main()
