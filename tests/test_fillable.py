"""[16] Fillable templates, the least texts that no page has, and fill covers: compared with slow computations."""

import itertools
import random
import unittest

from sealedslots.filling import fill_cover, find_unfillable, is_fill_cover, least_filling
from sealedslots.languages import Language
from sealedslots.readers import Reader
from sealedslots.sealing import is_sealed
from sealedslots.templates import Template
from tests.cases import made, subsets
from tests.samples import OTHER_VALUES
from tests.slow_fill import first_unfillable, has_page, slow_is_fill_cover, slots_of
from tests.template_samples import random_templates

GO, EVERY = ("said", ("go",)), Language.every("ab")
MOST = 5


def slot(name, language=EVERY):
    return ("slot", name, language)


def some_templates(seed, count, **more):
    return random_templates(seed, count, **{"density": 0.95, "told": (None, "a", "a", "b", "b", "go", "go", "go"), **more})


# From 0, a text with b first leads to 1, one with a to 2; which mark may follow depends on the second text.
LATE = Reader([{"p": (0, "a"), "q": (1, "go"), "r": (2, "go")}, {"p": (1, "a"), "s": (3, "stop")}, {"q": (2, "b"), "s": (3, "stop")},
               {}], [3])


class FindUnfillableTest(unittest.TestCase):
    def test_least_texts(self):
        counts = {"fillable": 0, "short": 0, "long": 0, "later": 0}
        for spec, parts, machines in some_templates(111, 400):
            template = Template(made(spec), parts)
            found = find_unfillable(template)
            wanted = first_unfillable(spec, parts, machines, MOST)
            if wanted is not None:
                self.assertEqual(list(found.items()), list(zip(slots_of(parts), wanted)))
                counts["short"] += 1
                counts["later"] += any(wanted) and len(wanted) > 1
            elif found is not None:
                self.assertGreater(sum(len(text) for text in found.values()), MOST)
                self.assertFalse(has_page(spec, parts, found))
                counts["long"] += 1
            else:
                self.assertIsNone(find_unfillable(template=template))
                counts["fillable"] += 1
            if found is not None:
                self.assertIsNone(least_filling(template, found))
            self.assertLessEqual(is_sealed(template), found is None)
            self.assertEqual(find_unfillable(template), found)
        self.assertGreater(counts["short"], 100)
        self.assertGreater(counts["fillable"], 60)
        self.assertGreater(counts["later"], 5)

    def test_fillable_but_not_sealed(self):
        template = Template(LATE, [GO, slot("x", Language.of("ab", "a", "b")), ("said", ("stop",))])
        self.assertIs(is_sealed(template), False)
        self.assertIsNone(find_unfillable(template))
        self.assertEqual(fill_cover(template), [(0, 0, (1, 2)), (0, 1, (1,)), (0, 1, (2,))])

    def test_the_order_of_texts(self):
        # Texts of two slots fail if they have two signs together, or none.
        reader = Reader([{"p": (1, "a"), "r": (2, "go")}, {"r": (3, "go")}, {"p": (4, "a"), "q": (4, "b")}, {}, {}], [3, 4])
        template = Template(reader, [slot("x"), GO, slot("y")])
        self.assertEqual(find_unfillable(template), {"x": "", "y": ""})
        nonempty = Template(reader, [slot("x", Language.of("ab", "", "a", "b")), GO, slot("y", Language.of("ab", "a", "b"))])
        self.assertEqual(find_unfillable(nonempty), {"x": "a", "y": "a"})
        first = Template(reader, [slot("x", Language.of("ab", "", "aa", "b")), GO, slot("y", Language.of("ab", "aa", "a", "b"))])
        self.assertEqual(list(find_unfillable(first).items()), [("x", ""), ("y", "aa")])
        other = Template(reader, [slot("y", Language.of("ab", "aa", "b")), GO, slot("x", Language.of("ab", "", "ba"))])
        self.assertEqual(list(find_unfillable(other).items()), [("y", "b"), ("x", "")])
        # Of texts with equally many signs, the shorter first text comes first, as strings do.
        many = Template(reader, [slot("x", Language.of("ab", "a", "ab", "b")), GO, slot("y", Language.of("ab", "b", "ab", "a"))])
        self.assertEqual(find_unfillable(many), {"x": "a", "y": "a"})
        tied = Template(reader, [slot("x", Language.of("ab", "aa", "b")), GO, slot("y", Language.of("ab", "a", "bb"))])
        self.assertEqual(find_unfillable(tied), {"x": "b", "y": "a"})

    def test_four_slots(self):
        reader = Reader([{"p": (0, "a"), "q": (0, "b"), "r": (1, "go")}, {"p": (1, "a"), "q": (1, "b"), "r": (2, "go")},
                         {"p": (2, "a"), "q": (2, "b"), "r": (3, "go")}, {"p": (3, "a"), "s": (3, None)}], [3])
        parts = [slot("x"), GO, slot("b"), GO, slot("c"), GO, slot("a")]
        self.assertEqual(list(find_unfillable(Template(reader, parts)).items()), [("x", ""), ("b", ""), ("c", ""), ("a", "b")])
        full = Template(reader, parts[:-1] + [slot("a", Language.every("a"))])
        self.assertIsNone(find_unfillable(full))
        self.assertEqual(fill_cover(full), [(0, 0, (0,)), (1, 0, (1,)), (2, 0, (2,)), (3, 0, (3,))])

    def test_silent_moves_ahead_of_a_slot(self):
        # Behind the piece, a is told only after a silent move, which belongs to the text of y.
        reader = Reader([{"p": (0, "a"), "q": (1, "go")}, {"r": (2, None)}, {"p": (2, "a")}], [1, 2])
        template = Template(reader, [slot("x", Language.every("a")), ("piece", (("q", "go"),)), slot("y", Language.every("a"))])
        self.assertIsNone(find_unfillable(template))
        self.assertEqual(fill_cover(template), [(0, 0, (0,)), (1, 0, (2,))])
        self.assertEqual(find_unfillable(Template(reader, [("piece", (("q", "go"),)), slot("y")])), {"y": "b"})
        self.assertIsNone(find_unfillable(Template(reader, [("piece", (("q", "go"),)), slot("y", Language.every("a"))])))

    def test_long_least_texts(self):
        ring = Reader([{"p": ((state + 1) % 11, "a"), "q": (11, "go")} for state in range(11)] + [{"p": (11, "a")}], list(range(12)))
        cut = Reader([{"p": ((state + 1) % 11, "a"), **({} if state == 10 else {"q": (11, "go")})} for state in range(11)] + [{}],
                     [11])
        language = Language("a", [{"a": (state + 1) % 6} for state in range(6)], [3])
        self.assertIsNone(find_unfillable(Template(ring, [slot("x", language), GO])))
        self.assertEqual(find_unfillable(Template(cut, [slot("x", language), GO])), {"x": "a" * 21})
        self.assertEqual(find_unfillable(Template(cut, [slot("x", language), GO, slot("y", Language.of("a", ""))])),
                         {"x": "a" * 21, "y": ""})

    def test_templates_without_slots(self):
        reader = Reader([{"p": (1, "go")}, {}], [1])
        self.assertIsNone(find_unfillable(Template(reader, [GO])))
        self.assertEqual(fill_cover(Template(reader, [GO])), [])
        for parts in [[("piece", ())], [GO, GO], [("said", ("other",))], [("piece", (("p", None),))]]:
            template = Template(reader, parts)
            self.assertEqual(find_unfillable(template), {})
            self.assertIsNone(fill_cover(template))
            self.assertIs(is_fill_cover(template, []), False)
        nowhere = Template(Reader([{}]), [("piece", ())])
        self.assertEqual((find_unfillable(nowhere), fill_cover(nowhere)), ({}, None))

    def test_one_text(self):
        reader = Reader([{"p": (1, "a"), "q": (0, None)}, {"r": (1, "b")}], [1])
        for texts, wanted in [(["a"], None), (["ab"], None), ([""], {"x": ""}), (["ba"], {"x": "ba"}), (["abb"], None)]:
            template = Template(reader, [slot("x", Language.of("ab", *texts))])
            self.assertEqual(find_unfillable(template), wanted)
            self.assertEqual(fill_cover(template) is None, wanted is not None)


class FillCoverTest(unittest.TestCase):
    def test_fill_covers(self):
        several, sizes = 0, 0
        for spec, parts, machines in some_templates(112, 2000, most_states=5, density=1, page_signs="pqrstu",
                                                    told=("a", "a", "a", "b", "b", "go", "go", "stop")):
            template = Template(made(spec), parts)
            found = fill_cover(template)
            self.assertEqual(found is None, find_unfillable(template) is not None)
            if found is None:
                self.assertIs(is_fill_cover(template, []), False)
                continue
            self.assertIs(type(found), list)
            self.assertTrue(slow_is_fill_cover(spec, parts, machines, found))
            for value in [found, found[::-1], found * 2, found + found[:1]]:
                self.assertIs(is_fill_cover(template, value), True)
            self.assertIs(is_fill_cover(value=found, template=template), True)
            found.append(1)
            self.assertEqual(fill_cover(template=template), found[:-1])
            several += not is_sealed(template)
            sizes += len(found) > 3
        self.assertGreater(several, 5)
        self.assertGreater(sizes, 20)

    def test_values_of_the_right_form(self):
        rng = random.Random(113)
        counts = {True: 0, False: 0}
        for spec, parts, machines in some_templates(114, 300, most_states=3):
            template = Template(made(spec), parts)
            known = fill_cover(template) or []
            names, sets = template.slots(), subsets(len(spec[0]))
            every = [(number, at, chosen) for number, name in enumerate(names)
                     for at in range(len(template.language_of(name))) for chosen in sets]
            for _ in range(8):
                value = [covered for covered in known if rng.random() < 0.93]
                value += [rng.choice(every) for _ in range(rng.choice([0, 0, 1, 2])) if every]
                value = [(number, at, tuple(chosen[1:]) if rng.random() < 0.1 else chosen) for number, at, chosen in value]
                rng.shuffle(value)
                wanted = slow_is_fill_cover(spec, parts, machines, value)
                self.assertIs(is_fill_cover(template, value), wanted, (spec, parts, value))
                if wanted:
                    self.assertIsNone(first_unfillable(spec, parts, machines, 3))
                counts[wanted] += 1
        self.assertGreater(min(counts.values()), 150)

    def test_all_lists(self):
        # Two states of the reader and one slot of all texts: all lists of tuples at once.
        accepted = 0
        for spec, parts, machines in some_templates(115, 2000, most_states=2, page_signs="pqr"):
            template = Template(made(spec), parts)
            if len(template.slots()) != 1 or len(template.language_of(template.slots()[0])) > 2:
                continue
            language = template.language_of(template.slots()[0])
            every = [(0, at, chosen) for at in range(len(language)) for chosen in subsets(len(spec[0]))]
            for value in [chosen for size in range(4) for chosen in itertools.combinations(every, size)]:
                wanted = slow_is_fill_cover(spec, parts, machines, value)
                self.assertIs(is_fill_cover(template, list(value)), wanted)
                accepted += wanted
        self.assertGreater(accepted, 50)


class IsFillCoverTest(unittest.TestCase):
    def setUp(self):
        self.template = Template(LATE, [GO, slot("x", Language.of("ab", "a", "b")), ("said", ("stop",))])
        self.cover = [(0, 0, (1, 2)), (0, 1, (1,)), (0, 1, (2,))]
        reader = Reader([{"p": (0, "a"), "r": (1, "go"), "s": (2, None)}, {"p": (1, "a")}, {"p": (2, "a")}], [1])
        self.double = Template(reader, [slot("x", Language.every("a")), GO, slot("y", Language.of("a", "a"))])

    def accepted(self, value, template=None):
        self.assertIs(is_fill_cover(template or self.template, value), True, repr(value)[:200])

    def refused(self, value, template=None):
        self.assertIs(is_fill_cover(template or self.template, value), False, repr(value)[:200])

    def test_accepted(self):
        self.assertEqual(fill_cover(self.template), self.cover)
        for value in itertools.permutations(self.cover):
            self.accepted(list(value))
        self.accepted(self.cover * 5)
        self.accepted(self.cover + [(0, 1, (0, 1, 2)), (0, 1, (1, 2))])
        self.accepted(self.cover + [(0, 1, (1, 3))])
        self.assertEqual(fill_cover(self.double), [(0, 0, (0, 2)), (1, 0, (1,)), (1, 1, (1,))])
        self.accepted([(0, 0, (0,)), (1, 0, (1,)), (1, 1, (1,))], self.double)
        self.accepted([(0, 0, (0,)), (0, 0, (0, 1)), (1, 0, (1,)), (1, 0, (0, 1, 2)), (1, 1, (1,))], self.double)

    def test_each_property_alone(self):
        self.refused([])
        # No tuple for the beginning, or with a greater set only.
        self.refused(self.cover[1:])
        self.refused([(0, 0, (0, 1, 2)), (0, 1, (1,)), (0, 1, (2,))])
        self.refused([(1, 0, (1,)), (1, 1, (1,))], self.double)
        # A state that is not live.
        for states in [(), (1,), (0, 1, 2, 3)]:
            self.refused(self.cover + [(0, 2, states)])
        # No tuple behind a sign, or with a greater set only.
        self.refused(self.cover[:2])
        self.refused([self.cover[0], (0, 1, (1,)), (0, 1, (2, 3))])
        self.refused([(0, 0, (0,)), (1, 0, (1,))], self.double)
        self.refused(self.cover + [(0, 0, (1,))])
        self.refused(self.cover + [(0, 0, ())])
        # No end behind the last slot.
        self.refused(self.cover + [(0, 1, (3,))])
        self.refused(self.cover + [(0, 1, (0,))])
        self.refused(self.cover + [(0, 1, ())])
        self.refused([(0, 0, (0,)), (1, 0, (1,)), (1, 1, (1,)), (1, 1, (0, 2))], self.double)
        # No tuple for the next slot, or with a greater set only.
        self.refused([(0, 0, (0,)), (1, 1, (1,))], self.double)
        self.refused([(0, 0, (0,)), (1, 0, (0, 1)), (1, 1, (1,))], self.double)
        self.refused([(0, 0, (0,)), (0, 0, (2,)), (1, 0, (1,)), (1, 1, (1,))], self.double)

    def test_never_for_a_template_that_is_not_fillable(self):
        language = Language.of("ab", "a", "bb", "ab")
        template = Template(LATE, [GO, slot("x", language), ("said", ("stop",))])
        self.assertEqual(find_unfillable(template), {"x": "ab"})
        rng = random.Random(116)
        every = [(0, at, chosen) for at in range(len(language)) for chosen in subsets(4)]
        for _ in range(400):
            self.refused(rng.sample(every, rng.randint(0, 12)), template)
        self.refused(every, template)

    def test_templates_without_slots(self):
        template = Template(LATE, [("said", ("go", "stop"))])
        self.accepted([], template)
        for value in OTHER_VALUES + [[(0, 0, (0,))], [(0, 0, ())], [()], ()]:
            if value != []:
                self.refused(value, template)

    def test_wrong_forms(self):
        for value in OTHER_VALUES + [tuple(self.cover), set(self.cover), {0: self.cover}, "", 0, iter(self.cover),
                                     [list(covered) for covered in self.cover],
                                     [(number, at, list(states)) for number, at, states in self.cover]]:
            self.refused(value)
        for covered in OTHER_VALUES + [
                [0, 0, (1, 2)], (0, 0, [1, 2]), (0, 0), (0, 0, (1, 2), 0), (0, 0, (2, 1)), (0, 0, (1, 1)), (0, 0, (1, 4)),
                (0, 0, (-1, 1)), (1, 0, (1, 2)), (-1, 0, (1, 2)), (0, 3, (1, 2)), (0, -1, (1, 2)), (False, 0, (1, 2)),
                (0, False, (1, 2)), (0, True, (1,)), (0, 1, (True,)), (0, 1, (False, 1)), (0, 1, {1}), (0, 1, 1), (0, 1, None),
                (0, 1, (None,)), (0, 1, ("1",)), (0, 1, "1"), ("0", 1, (1,)), (0, "1", (1,)), ("x", 1, (1,)), (None, 1, (1,)),
                (0, None, (1,)), ([0], 1, (1,)), (0, [1], (1,)), ({}, 1, (1,)), (0, {}, (1,)), (0, 1, ([],)), (0, 1, ((1,),)),
                (0, (1,), (1,))]:
            self.refused([covered])
            self.refused(self.cover + [covered])
            self.refused([covered] + self.cover)


if __name__ == "__main__":
    unittest.main()
