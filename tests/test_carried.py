"""[35] Templates that doors carry: compared with all short pages."""

import random
import unittest

from sealedslots.doors import Door, is_writable
from sealedslots.errors import SignsDiffer
from sealedslots.filling import texts_in
from sealedslots.languages import Language
from sealedslots.nested import find_uncarried, is_carried
from sealedslots.readers import Reader
from sealedslots.templates import Template
from tests.cases import Case, made
from tests.nested_samples import nested_templates, random_nestings
from tests.samples import words
from tests.slow_fill import short_fillings
from tests.slow_nested import is_carried_page
from tests.test_nested import door_of, has_signs

MOST = 7
GO, NOTHING = ("said", ("go",)), ("said", ())


class SlowTest(Case):
    def test_all_short_pages(self):
        counts = {"short": 0, "long": 0, "carried": 0, "empty": 0}
        for nesting, parts, machines in nested_templates(341, 1500):
            if not has_signs(nesting):
                continue
            door, template = door_of(nesting), Template(made(nesting[4]), parts)
            pages = list(short_fillings(nesting[4], parts, machines, "ab", MOST))
            outer, state, behind, machine, _ = nesting
            wanted = [page for page in pages if not is_carried_page(outer, state, behind, machine, page)]
            found = find_uncarried(door, template)
            self.assertIs(is_carried(door, template), found is None)
            if wanted:
                self.assertEqual(found, wanted[0])
                counts["short"] += 1
            elif found is not None:
                self.assertGreater(len(found), MOST)
                self.assertIsNotNone(texts_in(template, found))
                self.assertFalse(found in door.language and is_writable(door, found))
                counts["long"] += 1
            else:
                counts["carried" if pages else "empty"] += 1
        self.assertGreater(min(counts["short"], counts["carried"]), 50, counts)

    def test_random_long_pages(self):
        # Pages that fill templates which are carried: they are written through the door, however long they are.
        rng, checked = random.Random(342), 0
        for nesting, parts, machines in nested_templates(343, 1500):
            if not has_signs(nesting):
                continue
            door, template = door_of(nesting), Template(made(nesting[4]), parts)
            if find_uncarried(door, template) is not None:
                continue
            for _ in range(20):
                page = "".join(rng.choice("ab") for _ in range(rng.randint(6, 14)))
                if texts_in(template, page) is not None:
                    self.assertTrue(page in door.language and is_writable(door, page))
                    checked += 1
        self.assertGreater(checked, 30)


class ExamplesTest(Case):
    INNER = Reader([{"a": (1, "go"), "b": (0, "a")}, {"a": (1, None), "b": (1, "b")}], [1])
    OUTER = Reader([{"p": (0, "a"), "q": (0, "b")}])

    def test_a_page_that_does_not_belong_to_the_language(self):
        template = Template(self.INNER, [("slot", "x", Language.every("a")), GO, ("slot", "y", Language.every("b"))])
        for language, wanted in [(Language.every("ab"), None), (Language.every("a"), "ab"), (Language.every("b"), "a"),
                                 (Language("ab", [{"a": 0, "b": 0}], []), "a"), (Language.of("ab", "a", "ab", "ba", "aa"), "aaa")]:
            door = Door(self.OUTER, 0, [0], language)
            self.assertEqual(find_uncarried(door, template), wanted)
            self.assertIs(is_carried(door, template), wanted is None)
        # Signs that are not the language's.
        self.assertEqual(find_uncarried(Door(self.OUTER, 0, [0], Language.every("bc")), template), "a")
        self.assertEqual(find_uncarried(Door(self.OUTER, 0, [], Language.every("ab")), template), "a")

    def test_a_page_that_is_not_writable(self):
        template = Template(self.INNER, [("slot", "x", Language.every("a")), GO, ("slot", "y", Language.every("b"))])
        outer = Reader([{"p": (1, "a"), "q": (0, "b")}, {"p": (2, "a"), "q": (1, "b"), "r": (0, None)}, {"p": (3, "a")}, {"s": (0, "b")}])
        found = find_uncarried(Door(outer, 0, [0, 1, 2], Language.every("ab")), template)
        # From 0 or 1 the signs a lead on for ever by r; but behind two of them there is a way, too, on which b stops.
        self.assertIsNone(found)
        self.assertEqual(find_uncarried(Door(outer, 2, [0, 1, 2], Language.every("ab")), template), "a")
        self.assertEqual(find_uncarried(Door(outer, 1, [2, 3], Language.every("ab")), template), "ab")

    def test_templates_that_no_page_fills(self):
        for parts in [[("piece", (("a", "stop"),))], [("said", ("other",))], [("slot", "x", Language.of("z", "z"))], [NOTHING]]:
            template = Template(self.INNER, parts)
            for door in [Door(self.OUTER, 0, [], Language.every("ab")), Door(self.OUTER, 0, [0], Language("a", [{"a": 0}], []))]:
                self.assertIsNone(find_uncarried(door, template))
                self.assertIs(is_carried(door, template), True)

    def test_the_empty_page(self):
        inner = Reader([{"a": (0, "go")}], [0])
        template = Template(inner, [NOTHING])
        self.assertEqual(find_uncarried(Door(self.OUTER, 0, [], Language.every("ab")), template), "")
        self.assertEqual(find_uncarried(Door(self.OUTER, 0, [0], Language.of("ab", "a")), template), "")
        self.assertIsNone(find_uncarried(Door(self.OUTER, 0, [0], Language.of("ab", "")), template))
        self.assertIs(is_carried(template=template, door=Door(self.OUTER, 0, [0], Language.of("ab", ""))), True)

    def test_a_long_page(self):
        # The page has to turn a circle of three, one of four and one of five, all at once.
        outer = Reader([{"p": ((state + 1) % 12, "a")} for state in range(12)])
        inner = Reader([{"a": ((state + 1) % 5, None)} for state in range(5)], [0])
        language = Language.every("a")
        door = Door(outer, 0, [state for state in range(12) if state != 11], language)
        found = find_uncarried(door, Template(inner, [NOTHING]))
        self.assertEqual(found, "a" * 35)
        self.assertEqual(find_uncarried(template=Template(inner, [NOTHING]), door=door), found)


class ErrorsTest(Case):
    def test_signs(self):
        differ = 0
        for nesting in random_nestings(344, 200, page_signs="abc"):
            if has_signs(nesting):
                continue
            door, inner = door_of(nesting), made(nesting[4])
            for parts in [[NOTHING], [("piece", (("z", None),))]]:
                for call in (find_uncarried, is_carried):
                    with self.assertRaises(SignsDiffer) as caught:
                        call(door, Template(inner, parts))
                    self.assertEqual((caught.exception.one, caught.exception.other), (door.reader.text_signs(), inner.page_signs()))
            differ += 1
        self.assertGreater(differ, 50)

    def test_all_words_of_a_carried_template(self):
        inner = Reader([{"a": (0, "a"), "b": (0, "b")}], [0])
        template = Template(inner, [("slot", "x", Language.every("ab"))])
        outer = Reader([{"p": (1, "a"), "q": (1, "b")}, {"p": (0, "a"), "r": (0, "b"), "s": (1, None)}])
        door = Door(outer, 0, [0, 1], Language.every("ab"))
        self.assertIs(is_carried(door, template), True)
        self.assertTrue(all(is_writable(door, page) for page in words("ab", 6)))


if __name__ == "__main__":
    unittest.main()
