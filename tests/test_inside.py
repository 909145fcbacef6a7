"""[34] Templates inside nestings: compared with slow computations over the triples."""

import itertools
import random
import unittest

from sealedslots.doors import Door, is_writable
from sealedslots.errors import InvalidTexts, InvalidVector, NotSealed, ReadersDiffer
from sealedslots.filling import is_filled
from sealedslots.games import is_written_with
from sealedslots.languages import Language
from sealedslots.nested import Nesting, filling_inside, is_carried, is_sealed_inside, sets_inside
from sealedslots.pages import reading
from sealedslots.readers import Reader
from sealedslots.sealing import is_sealed
from sealedslots.templates import Template
from sealedslots.vectors import is_sealed_under
from tests.cases import Case, made
from tests.nested_samples import EVERY, nested_templates
from tests.samples import OTHER_VALUES
from tests.slow_fill import slots_of, texts_by_size
from tests.slow_nested import filling_inside as slow_filling_inside
from tests.slow_nested import sets_inside as slow_sets_inside
from tests.slow_nested import useful_triples
from tests.test_nested import door_of, has_signs

GO, NOTHING = ("said", ("go",)), ("said", ())


def samples(seed, count, **more):
    """(nesting, Nesting, Template, parts, machines); most of the templates are sealed for the inner reader."""
    rng = random.Random(seed)
    for nesting, parts, machines in nested_templates(seed, count, **more):
        template = Template(made(nesting[4]), parts)
        if has_signs(nesting) and (is_sealed(template) or rng.random() < 0.05) and len(useful_triples(nesting)) < 13:
            yield nesting, Nesting(door_of(nesting), made(nesting[4])), template, parts, machines


class SlowTest(Case):
    def test_sets(self):
        counts, kinds = {True: 0, False: 0}, {}
        for nesting, found, template, parts, machines in samples(331, 4000):
            many = len(machines)
            vectors = list(itertools.product(range(5), repeat=many)) if many < 2 else [(4,) * many, (0,) * many, (1, 3, 2)[:many]]
            for vector in vectors:
                wanted = slow_sets_inside(nesting, parts, machines, vector)
                self.assertEqual(sets_inside(found, template, vector), wanted)
                self.assertIs(is_sealed_inside(found, template, vector), 0 in wanted[0])
                counts[0 in wanted[0]] += 1
            self.assertEqual(sets_inside(found, template), slow_sets_inside(nesting, parts, machines, (4,) * many))
            self.assertEqual(sets_inside(found, template, None), sets_inside(found, template))
            self.assertIs(is_sealed_inside(found, template), is_sealed_inside(found, template, (4,) * many))
            for part in parts:
                key = part[0] if part[0] == "slot" else (part[0], len(part[1]))
                kinds[key] = kinds.get(key, 0) + is_sealed_inside(found, template)
        self.assertGreater(min(counts.values()), 100, counts)
        self.assertGreater(min(kinds[key] for key in ["slot", ("piece", 0), ("piece", 1), ("said", 0), ("said", 1)]), 10, kinds)

    def test_fillings(self):
        found_pages, refused = 0, 0
        for nesting, found, template, parts, machines in samples(332, 4000):
            sets = slow_sets_inside(nesting, parts, machines, (4,) * len(machines))
            for chosen in texts_by_size(parts, machines, 3)[:6]:
                texts = dict(zip(slots_of(parts), chosen))
                if 0 not in sets[0]:
                    with self.assertRaises(NotSealed) as caught:
                        filling_inside(found, template, texts)
                    self.assertIsNone(caught.exception.vector)
                    refused += 1
                    continue
                page = filling_inside(found, template, texts)
                wanted = slow_filling_inside(nesting, parts, sets, texts, 4)
                if wanted is not None:
                    self.assertEqual(page, wanted)
                    found_pages += 1
                self.check_page(found, template, texts, page)
        self.assertGreater(found_pages, 100)
        self.assertGreater(refused, 300)

    def check_page(self, nesting, template, texts, page):
        """READ BACK, inside and outside."""
        row = template.row(texts)
        self.assertEqual(reading(nesting.reader, page), row)
        outside = nesting.told_outside(page)
        self.assertEqual(reading(nesting.inner, outside), row)
        self.assertIs(is_filled(template, texts, outside), True)
        self.assertIn(outside, nesting.door.language)
        self.assertIs(is_writable(nesting.door, outside), True)

    def test_doors_that_are_written_with_0(self):
        # All pages belong to the outer language; so what is sealed under a vector is sealed inside.
        sealed, others = 0, 0
        for nesting, found, template, parts, machines in samples(333, 2500, machines=[EVERY]):
            if is_written_with(found.door, 0) and is_carried(found.door, template):
                for vector in itertools.product(range(5), repeat=len(machines)):
                    if is_sealed_under(template, vector):
                        self.assertIs(is_sealed_inside(found, template, vector), True)
                        sealed += 1
            others += is_sealed_inside(found, template) and not is_written_with(found.door, 4)
        self.assertGreater(sealed, 100)
        self.assertGreater(others, 5)


class ExamplesTest(Case):
    """Outside, the page a, b is written as p and q, with silent signs r between them; inside, a tells go and b nothing."""

    OUTER = Reader([{"p": (1, "a"), "r": (0, None)}, {"q": (2, "b"), "r": (1, None)}, {"r": (3, None)}, {"s": (3, "go")}])
    INNER = Reader([{"a": (1, "go")}, {"b": (0, None), "a": (1, None)}], [0])

    def nesting(self, behind):
        return Nesting(Door(self.OUTER, 0, behind, Language.every("ab")), self.INNER)

    def test_pieces(self):
        # Silent outer moves may stand ahead of a piece, in it and behind it.
        piece = ("piece", (("a", "go"), ("b", None)))
        for behind, states in [([2], (0, 1, 2)), ([3], (0, 1, 2, 3)), ([2, 3], (0, 1, 2, 3))]:
            found = self.nesting(behind)
            self.assertEqual(len(found), len(states))
            template = Template(self.INNER, [piece])
            self.assertEqual(sets_inside(found, template)[0], (0,))
            self.assertEqual(filling_inside(found, template, {}), "pqr" if behind == [3] else "pq")
        found = self.nesting([3])
        for parts, wanted in [([("piece", (("a", "go"),)), ("piece", (("b", None),))], "pqr"), ([NOTHING, piece, NOTHING], "pqr"),
                              ([("piece", ()), piece, ("piece", ()), ("piece", ())], "pqr"), ([GO, ("piece", (("b", None),))], "pqr")]:
            self.assertEqual(filling_inside(found, Template(self.INNER, parts), {}), wanted)
        self.assertEqual(sets_inside(found, Template(self.INNER, [("piece", ())])), [(2, 3), (3,)])
        self.assertEqual(sets_inside(found, Template(self.INNER, [NOTHING])), [(1, 2, 3), (3,)])

    def test_pieces_that_do_not_fit(self):
        found = self.nesting([2, 3])
        for moves in [(), (("a", "go"),), (("a", None), ("b", None)), (("a", "go"), ("b", "go")), (("b", None), ("a", "go")),
                      (("a", "stop"), ("b", None)), (("p", "go"), ("q", None)), (("a", "go"), ("b", None), ("b", None))]:
            template = Template(self.INNER, [("piece", moves)])
            self.assertIs(is_sealed_inside(found, template), False)
            self.assertRaises(NotSealed, filling_inside, found, template, {})

    def test_said_parts_with_inner_silent_moves(self):
        found = self.nesting([2, 3])
        self.assertEqual(filling_inside(found, Template(self.INNER, [GO]), {}), "pq")
        self.assertEqual(filling_inside(found, Template(self.INNER, [GO, NOTHING]), {}), "pq")
        # A piece without moves takes silent outer moves, but not those that tell something outside.
        self.assertIs(is_sealed_inside(found, Template(self.INNER, [("said", ("go",)), ("piece", ())])), True)
        self.assertIs(is_sealed_inside(found, Template(self.INNER, [("piece", (("a", "go"),)), ("piece", ())])), False)

    def test_sealed_and_wide_but_not_inside(self):
        # Outside, the first sign has to be written so that it depends on the last one.
        outer = Reader([{"p": (1, "a"), "q": (2, "a")}, {"p": (3, "b")}, {"p": (4, "b")}, {"p": (5, "c")}, {"p": (5, "d")}, {}])
        inner = Reader([{"a": (1, None)}, {"b": (2, "go")}, {"c": (3, "x"), "d": (3, "y")}, {}], [3])
        language = Language.of("abcd", "abc", "abd")
        parts = [NOTHING, GO, ("slot", "t", Language.of("xy", "x", "y"))]
        template = Template(inner, parts)
        door = Door(outer, 0, [5], language)
        self.assertIs(is_sealed(template), True)
        self.assertIs(is_carried(door, template), True)
        self.assertEqual([is_written_with(door, entry) for entry in range(5)], [False, False, True, True, True])
        found = Nesting(door, inner)
        self.assertIs(is_sealed_inside(found, template), False)
        with self.assertRaises(NotSealed) as caught:
            filling_inside(found, template, {"t": "x"})
        self.assertIsNone(caught.exception.vector)

    def test_sealed_inside_although_the_door_is_not_wide(self):
        outer = Reader([{"p": (0, "a")}])
        inner = Reader([{"a": (0, "go")}], [0])
        door = Door(outer, 0, [0], Language.every("ab"))
        self.assertIs(is_written_with(door, 4), False)
        found = Nesting(door, inner)
        self.assertIs(is_sealed_inside(found, Template(inner, [("said", ("go", "go"))])), True)

    def test_names_of_the_arguments(self):
        found, template = self.nesting([2]), Template(self.INNER, [GO])
        self.assertEqual(sets_inside(template=template, nesting=found, vector=()), sets_inside(found, template))
        self.assertIs(is_sealed_inside(vector=(), template=template, nesting=found), True)
        self.assertEqual(filling_inside(texts={}, template=template, nesting=found), "pq")


class ErrorsTest(Case):
    INNER = Reader([{"a": (0, "a"), "b": (0, "go")}], [0])
    NESTING = Nesting(Door(Reader([{"p": (0, "a"), "q": (0, "b")}]), 0, [0], Language.every("ab")), INNER)
    EVERY = Language.every("a")

    def test_readers_that_differ(self):
        others = [Reader([{"a": (0, "a"), "b": (0, "stop")}], [0]), Reader([{"a": (0, "a"), "b": (0, "go")}], []), self.NESTING.door.reader,
                  Reader([{"a": (0, "a"), "b": (0, "go")}, {}], [0])]
        for reader in others:
            template = Template(reader, [("slot", "x", self.EVERY)])
            calls = [lambda: filling_inside(self.NESTING, template, {"x": ""})]
            for value in [(0,), (), None, 5, (7,)]:
                calls += [lambda: sets_inside(self.NESTING, template, value), lambda: is_sealed_inside(self.NESTING, template, value),
                          lambda: filling_inside(self.NESTING, template, value)]
                for call in calls:
                    with self.assertRaises(ReadersDiffer) as caught:
                        call()
                    self.assertEqual(caught.exception.place, 0)
        equal = Template(Reader([{"b": (0, "go"), "a": (0, "a")}], (0,)), [("slot", "x", self.EVERY)])
        self.assertIs(is_sealed_inside(self.NESTING, equal), True)

    def test_vectors(self):
        template = Template(self.INNER, [("slot", "x", self.EVERY), ("said", ("go",)), ("slot", "y", self.EVERY)])
        self.assertIs(is_sealed_inside(self.NESTING, template, (0, 4)), True)
        for value in [value for value in OTHER_VALUES if value is not None] + [
                [0, 4], (0,), (0, 4, 0), (0, 5), (-1, 0), (True, 0), (0, False), (None, 0), ("0", 0), 0, "04", {}, ((0,), 0)]:
            self.fails(InvalidVector, value, lambda: sets_inside(self.NESTING, template, value))
            self.fails(InvalidVector, value, lambda: is_sealed_inside(self.NESTING, template, value))

    def test_texts_come_before_not_sealed(self):
        for inner in [self.INNER, Reader([{"a": (0, "a"), "b": (0, "go")}], [])]:
            nesting = Nesting(self.NESTING.door, inner)
            template = Template(inner, [("slot", "x", self.EVERY)])
            for texts, problem, name in [({}, "names", None), (None, "names", None), ({"y": ""}, "names", None), ({"x": "b"}, "text", "x"),
                                         ({"x": None}, "text", "x")]:
                with self.assertRaises(InvalidTexts) as caught:
                    filling_inside(nesting, template, texts)
                self.assertEqual((caught.exception.problem, caught.exception.name), (problem, name))
        self.assertRaises(NotSealed, filling_inside, nesting, template, {"x": ""})


class RepeatedTest(unittest.TestCase):
    def test_repeated_queries_and_new_results(self):
        rng = random.Random(334)
        for nesting, found, template, parts, machines in itertools.islice(samples(335, 1000), 60):
            texts = dict(zip(slots_of(parts), rng.choice(texts_by_size(parts, machines, 3))))
            sets, copy = sets_inside(found, template), dict(texts)
            sets.append(5)
            self.assertEqual(sets_inside(found, template), sets[:-1])
            if is_sealed_inside(found, template):
                self.assertEqual(filling_inside(found, template, texts), filling_inside(found, template, texts))
            self.assertEqual(texts, copy)


if __name__ == "__main__":
    unittest.main()
