"""[30] to [32] Sets ahead of rows, and exchanges: compared with slow closures."""

import itertools
import random
import unittest

from sealedslots.doors import Door
from sealedslots.errors import TooLarge
from sealedslots.exchange import exchange, is_exchange, is_parting, parting_context, replaces, set_ahead
from sealedslots.languages import Language
from sealedslots.readers import Reader
from sealedslots.games import is_written_with
from tests.cases import Case, made, subsets
from tests.exchange_samples import made_kinds, made_parts, random_exchanges
from tests.samples import OTHER_VALUES
from tests.slow_exchange import Rows

GO, NOTHING = ("said", ("go",)), ("said", ())
EVERY, ONE = Language.every("ab"), Language.of("ab", "a")
READER = Reader([{"p": (1, "a"), "q": (0, "go"), "r": (1, None)}, {"p": (0, "b"), "s": (2, "go")}, {}], [2])


class SetAheadTest(Case):
    def test_all_sets_behind(self):
        counts = {True: 0, False: 0}
        for spec, kinds, one, other in random_exchanges(301, 150, most=6):
            rows, reader, program_kinds = Rows(spec, kinds), made(spec), made_kinds(kinds)
            for row in (one, other):
                for behind in subsets(len(spec[0])):
                    wanted = rows.ahead(row, behind)
                    parts = made_parts(kinds, row)
                    found = set_ahead(reader, program_kinds, parts, behind)
                    self.assertEqual((type(found), found), (tuple, wanted))
                    self.assertEqual(set_ahead(reader, tuple(program_kinds), tuple(parts), list(behind)[::-1]), wanted)
                    self.assertEqual(set_ahead(reader, program_kinds[::-1], parts, behind), wanted)
                    counts[bool(found)] += 1
        self.assertGreater(min(counts.values()), 200)

    def test_an_empty_row(self):
        for behind in subsets(3):
            self.assertEqual(set_ahead(READER, [(EVERY, 4)], [], behind[::-1]), behind)
            self.assertEqual(set_ahead(READER, [(EVERY, 4)], (), list(behind)), behind)

    def test_each_entry_of_a_slot(self):
        reader = Reader([{"p": (1, "a"), "q": (4, "a")}, {"p": (2, "a")}, {"p": (3, "a")}, {"p": (7, "a")}, {"p": (5, "a")},
                         {"p": (6, "a")}, {"p": (7, "b")}, {}])
        language = Language.of("ab", "aaaa", "aaab")
        found = [set_ahead(reader, [(language, entry)], [("slot", "x", language)], [7]) for entry in range(5)]
        self.assertEqual(found, [(), (), (), (0,), (0,)])
        for entry in range(5):
            wanted = tuple(state for state in range(8) if is_written_with(Door(reader, state, [7], language), entry))
            self.assertEqual(found[entry], wanted)

    def test_each_slot_has_the_entry_of_its_kind(self):
        # The text aab has to be known ahead of its first sign; a alone is always written.
        reader = Reader([{"p": (1, "a"), "q": (2, "a")}, {"p": (3, "b")}, {"p": (3, "a")}, {"q": (0, "go")}], [3])
        late, soon = Language.of("ab", "ab", "aa"), Language.of("ab", "ab")
        slots = [("slot", "x", late), ("slot", "x", soon)]
        for entries, wanted in [((0, 4), [(), (0,)]), ((4, 0), [(0,), (0,)]), ((1, 0), [(0,), (0,)]), ((0, 0), [(), (0,)])]:
            kinds = [(late, entries[0]), (soon, entries[1])]
            for given in (kinds, kinds[::-1]):
                self.assertEqual([set_ahead(reader, given, [slot], [3]) for slot in slots], wanted)
                row = [slots[1], GO, slots[0]]
                self.assertEqual(set_ahead(reader, given, row, [3]), wanted[0])
                self.assertIs(is_parting(reader, given, [slots[0]], [slots[1]], ((), ())), wanted[0] == ())
                self.assertIs(replaces(reader, given, [slots[0]], [slots[1]]), wanted[0] != ())

    def test_twelve_parts_with_equal_names(self):
        kinds = [(EVERY, 0), (ONE, 4), (Language.of("ab", ""), 2), (Language.of("a", "a"), 1)]
        slots = [("slot", "x", language) for language, _ in kinds]
        row = [part for slot in slots for part in (slot, GO, NOTHING)]
        self.assertEqual(len(row), 12)
        reader = Reader([{"p": (0, "a"), "q": (0, "b"), "r": (0, "go")}], [0])
        self.assertEqual(set_ahead(reader, kinds, row, [0]), (0,))
        self.assertEqual(set_ahead(reader, kinds, row, []), ())
        self.assertEqual(set_ahead(behind=[0], parts=row, kinds=kinds, reader=reader), (0,))

    def test_readers_of_twelve_states(self):
        reader = Reader([{"p": ((state + 1) % 12, "a"), "q": (state, "go")} for state in range(12)], [0])
        language = Language.of("a", "aaa")
        self.assertEqual(set_ahead(reader, [(language, 0)], [("slot", "x", language), GO, ("slot", "y", language)], [0, 7]), (1, 6))


class SlowTest(Case):
    def test_small_rows(self):
        counts = {True: 0, False: 0}
        samples = itertools.chain(random_exchanges(302, 260), random_exchanges(309, 260, chain=True))
        for spec, kinds, one, other in samples:
            rows, reader, program_kinds = Rows(spec, kinds), made(spec), made_kinds(kinds)
            first, second = made_parts(kinds, one), made_parts(kinds, other)
            tails, pairs = rows.exchange(one, other)
            found = exchange(reader, program_kinds, first, second)
            counts[found is None] += 1
            self.assertIs(replaces(reader, program_kinds, first, second), found is not None)
            self.assertEqual(parting_context(reader, program_kinds, first, second) is None, found is not None)
            if rows.parts_them(pairs):
                self.assertIsNone(found)
                self.assertIs(is_exchange(reader, program_kinds, first, second, (sorted(tails), sorted(pairs))), False)
                continue
            self.assertEqual(found, (sorted(tails), sorted(pairs)))
            self.assertIs(type(found), tuple)
            self.assertEqual([type(listed) for listed in found], [list, list])
            self.assertTrue(all(type(node[-1]) is bool for listed in found for node in listed))
            self.assertIs(is_exchange(reader, program_kinds, first, second, found), True)
        self.assertGreater(min(counts.values()), 40, counts)

    def test_larger_readers(self):
        kept = 0
        for spec, kinds, one, other in random_exchanges(303, 25, most_states=6, page_signs="pqrs"):
            rows, reader, program_kinds = Rows(spec, kinds), made(spec), made_kinds(kinds)
            first, second = made_parts(kinds, one), made_parts(kinds, other)
            tails, pairs = rows.exchange(one, other)
            wanted = None if rows.parts_them(pairs) else (sorted(tails), sorted(pairs))
            self.assertEqual(exchange(reader, tuple(program_kinds), tuple(first), tuple(second)), wanted)
            kept += wanted is not None
        self.assertGreater(kept, 5)

    def test_rows_replace_themselves_and_in_chains(self):
        chains = 0
        for spec, kinds, one, other in random_exchanges(304, 120):
            reader, program_kinds = made(spec), made_kinds(kinds)
            rows = [made_parts(kinds, one), made_parts(kinds, other), made_parts(kinds, other) + [NOTHING], []]
            known = {(a, b): replaces(reader, program_kinds, rows[a], rows[b]) for a in range(4) for b in range(4)}
            for a, b, c in itertools.product(range(4), repeat=3):
                self.assertIs(known[(a, a)], True)
                if known[(a, b)] and known[(b, c)]:
                    self.assertIs(known[(a, c)], True)
                    chains += len({a, b, c}) == 3
            # Silent moves that may stand there or not change nothing where a piece may not have to follow at once.
            self.assertIs(known[(2, 1)], True)
        self.assertGreater(chains, 100)


class IsExchangeTest(Case):
    def mutated(self, rng, spec, value):
        """The lists with a few tuples left out, added, changed or several times."""
        tails, pairs = [list(listed) for listed in value]
        many = len(spec[0])
        for _ in range(rng.choice([1, 1, 1, 2, 3])):
            listed, sets = (tails, 1) if rng.random() < 0.4 else (pairs, 2)
            change = rng.choice(["drop", "drop", "double", "add", "shuffle", "free"])
            if change == "drop" and listed:
                listed.pop(rng.randrange(len(listed)))
            elif change == "double" and listed:
                listed.append(rng.choice(listed))
            elif change == "shuffle":
                rng.shuffle(listed)
            elif change == "free" and listed:
                at = rng.randrange(len(listed))
                listed[at] = listed[at][:-1] + (not listed[at][-1],)
            elif change == "add":
                listed.append(tuple(rng.choice(subsets(many)) for _ in range(sets)) + (rng.random() < 0.3,))
        return tails, pairs

    def test_random_values(self):
        rng = random.Random(305)
        counts = {True: 0, False: 0}
        for spec, kinds, one, other in random_exchanges(306, 250, most_states=2, page_signs="pq"):
            rows, reader, program_kinds = Rows(spec, kinds), made(spec), made_kinds(kinds)
            first, second = made_parts(kinds, one), made_parts(kinds, other)
            tails, pairs = [sorted(found) for found in rows.exchange(one, other)]
            for _ in range(12):
                value = self.mutated(rng, spec, (tails, pairs))
                wanted = rows.is_exchange(one, other, *value)
                self.assertIs(is_exchange(reader, program_kinds, first, second, value), wanted)
                counts[wanted] += 1
        self.assertGreater(min(counts.values()), 200, counts)

    def test_all_tails_and_pairs_that_do_not_part(self):
        # With every tail and every pair in which the start is not in the second set alone, nothing that follows lacks.
        reader = Reader([{"p": (0, "a"), "q": (1, "go"), "r": (1, None)}, {"p": (1, "a"), "q": (1, "go")}], [1])
        kinds, sets = [(Language.every("a"), 0)], subsets(2)
        tails = [(chosen, free) for chosen in sets for free in (True, False)]
        pairs = [(one, other, free) for one in sets for other in sets for free in (True, False) if set(other) <= set(one)]
        rng = random.Random(307)
        for row in [[], [GO], [("slot", "x", Language.every("a"))]]:
            self.assertIs(is_exchange(reader, kinds, row, row, (tails, pairs)), True)
            mixed = tails * 2, pairs + pairs[::-1]
            rng.shuffle(mixed[0])
            self.assertIs(is_exchange(reader, kinds, row, row, mixed), True)
            bad = (tails, pairs + [((1,), (0, 1), False)])
            self.assertIs(is_exchange(reader, kinds, row, row, bad), False)

    def test_each_tail_and_each_pair_is_needed(self):
        # Of the text signs the slot needs a, and each of the marks leads to another state.
        reader = Reader([{"p": (1, "go"), "q": (0, None)}, {"p": (2, "a"), "q": (0, "stop")}, {"p": (3, "go"), "q": (1, "a")}, {}], [3])
        kinds, one, other = [(Language.of("a", "a"), 0)], [NOTHING], []
        tails, pairs = exchange(reader, kinds, one, other)
        self.assertGreater(len(tails), 6)
        self.assertGreater(len(pairs), 6)
        for left in range(len(tails)):
            value = tails[:left] + tails[left + 1:], pairs
            self.assertIs(is_exchange(reader, kinds, one, other, value), False)
        for left in range(len(pairs)):
            value = tails, pairs[:left] + pairs[left + 1:]
            self.assertIs(is_exchange(reader, kinds, one, other, value), False)

    def test_forms(self):
        kinds, row = [(EVERY, 4)], [("slot", "x", EVERY)]
        tails, pairs = exchange(READER, kinds, row, row)
        good = (tails, pairs)
        self.assertIs(is_exchange(READER, kinds, row, row, good), True)
        self.assertIs(is_exchange(value=good, other=row, one=row, kinds=kinds, reader=READER), True)
        bad = [[tails, pairs], (tails,), (tails, pairs, []), (tuple(tails), pairs), (tails, tuple(pairs)), (pairs, tails),
               ([list(tail) for tail in tails], pairs), (tails, [list(pair) for pair in pairs]), ({}, {}), ([], []),
               ([(list(chosen), free) for chosen, free in tails], pairs), ([(chosen, int(free)) for chosen, free in tails], pairs),
               (tails, [(one, other, int(free)) for one, other, free in pairs]),
               (tails, [(list(one), other, free) for one, other, free in pairs]), (tails, [pair[:2] for pair in pairs]),
               ([tail + (True,) for tail in tails], pairs), ([tail[:1] for tail in tails], pairs)]
        for sets in [(1, 0), (0, 0), (3,), (-1,), (True,), (0, True), (None,), ((0,),), "0", ["0"], 0, None, {0}]:
            bad += [(tails + [(sets, True)], pairs), (tails, pairs + [(sets, (0, 1, 2), True)]), (tails, pairs + [((0,), sets, False)])]
        for free in [1, 0, None, "True", [], (), (True,)]:
            bad += [(tails + [((0,), free)], pairs), (tails, pairs + [((0,), (0,), free)])]
        for value in OTHER_VALUES:
            bad += [value, (value, pairs), (tails, value), (tails + [value], pairs), (tails, pairs + [value])]
        for value in bad:
            self.assertIs(is_exchange(READER, kinds, row, row, value), False, value)

    def test_readers_of_seven_states_and_more(self):
        for many in [7, 12]:
            reader = Reader([{"p": ((state + 1) % many, "a"), "q": (state, "go")} for state in range(many)], [0])
            kinds, row = [(Language.of("a", "a"), 0)], [GO]
            rows = Rows(([{"p": ((state + 1) % many, "a"), "q": (state, "go")} for state in range(many)], [0], 0),
                        [(("a", [{"a": 1}, {"a": 2}, {"a": 2}], [1]), 0)])
            tails, pairs = [sorted(found) for found in rows.exchange(row, row)]
            self.assertGreater(len(tails), many)
            self.assertIs(is_exchange(reader, kinds, row, row, (tails, pairs)), True)
            self.assertIs(is_exchange(reader, kinds, row, row, (tails, pairs[1:])), False)
            for call in (exchange, replaces, parting_context):
                with self.assertRaises(TooLarge) as caught:
                    call(reader, kinds, row, row)
                self.assertEqual((caught.exception.kind, caught.exception.limit), ("states", 6))


class RepeatedTest(unittest.TestCase):
    def test_repeated_queries_and_new_results(self):
        for spec, kinds, one, other in random_exchanges(308, 40):
            reader, program_kinds = made(spec), made_kinds(kinds)
            first, second = made_parts(kinds, one), made_parts(kinds, other)
            before = repr((reader, program_kinds, first, second))
            found = exchange(reader, program_kinds, first, second)
            if found is not None:
                copy = [list(listed) for listed in found]
                found[0].append(1)
                found[1].clear()
                self.assertEqual([list(listed) for listed in exchange(reader, program_kinds, first, second)], copy)
            again = parting_context(other=second, one=first, kinds=program_kinds, reader=reader)
            self.assertEqual(parting_context(reader, program_kinds, first, second), again)
            self.assertEqual(repr((reader, program_kinds, first, second)), before)


if __name__ == "__main__":
    unittest.main()
