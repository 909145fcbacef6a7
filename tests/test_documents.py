"""[36] Documents: compared with all ways to divide short pages, and with slow sets ahead."""

import random
import unittest

from sealedslots.documents import Document
from sealedslots.errors import InvalidTexts, InvalidWord, NotFilled, NotSealed
from sealedslots.filling import plain_filling, texts_in
from sealedslots.languages import Language
from sealedslots.pages import reading
from sealedslots.readers import Reader
from sealedslots.sealing import is_sealed
from sealedslots.templates import Template
from tests.cases import NOT_WORDS, Case
from tests.edit_samples import filled_templates
from tests.samples import OTHER_VALUES, words
from tests.slow import ahead, rows_of_words
from tests.slow_edits import cut, divisions, states_of
from tests.slow_fill import plain_words, slots_of, texts_by_size

MOST = 5
GO, NOTHING = ("said", ("go",)), ("said", ())
EVERY = Language.every("a")
# p tells a and q go; r and s tell nothing, s on the way to a state from which go is not told.
READER = Reader([{"p": (0, "a"), "q": (0, "go"), "r": (0, None), "s": (1, None)}, {"p": (1, "a"), "r": (1, None)}], [0, 1])


class SlowTest(Case):
    def test_pages_that_are_divided(self):
        many, several, stands = 0, 0, {True: 0, False: 0}
        for spec, parts, machines, template, fillings in filled_templates(401, 1500, MOST):
            sets = ahead(spec, parts, machines)
            for page, texts in list(fillings.items())[:25]:
                document = Document.of_page(template, page)
                lengths = sorted(divisions(spec, parts, machines, page))
                several += len(lengths) > 1
                wanted = cut(page, lengths[0])
                self.assertEqual((document.words(), document.page, len(document)), (wanted, page, len(page)))
                states = states_of(spec, wanted)
                self.assertEqual(document.states(), states)
                self.assertEqual(list(document.texts().items()), list(zip(slots_of(parts), *texts)))
                found = all(states[index] in sets[index] for index in range(1, len(states)))
                self.assertIs(document.stands(), found)
                stands[found] += 1
                self.assertTrue(document.template == template)
                many += 1
        self.assertGreater(many, 1500)
        self.assertGreater(several, 300)
        self.assertGreater(min(stands.values()), 200, stands)

    def test_all_short_pages(self):
        refused = 0
        for spec, parts, machines, template, fillings in filled_templates(402, 200, MOST):
            for page in words("pqr", MOST):
                if page not in fillings:
                    self.assertIsNone(texts_in(template, page))
                    with self.assertRaises(NotFilled) as caught:
                        Document.of_page(template, page)
                    self.assertEqual(caught.exception.word, page)
                    refused += 1
        self.assertGreater(refused, 10000)

    def test_plain_fillings(self):
        found, refused = 0, 0
        for spec, parts, machines, template, _ in filled_templates(403, 1500, 4):
            tables = rows_of_words(spec[0], "pqr", 5)
            for chosen in texts_by_size(parts, machines, 3)[:10]:
                texts = dict(zip(slots_of(parts), chosen))
                if not is_sealed(template):
                    with self.assertRaises(NotSealed) as caught:
                        Document(template, texts)
                    self.assertIsNone(caught.exception.vector)
                    refused += 1
                    continue
                document = Document(template, texts)
                self.assertEqual(document.page, plain_filling(template, texts))
                self.assertIs(document.stands(), True)
                self.assertEqual(document.texts(), texts)
                self.assertEqual(reading(template.reader, document.page), template.row(texts))
                wanted = plain_words(spec, parts, machines, texts, tables)
                if wanted is not None:
                    self.assertEqual(document.words(), wanted)
                    found += 1
        self.assertGreater(min(found, refused), 100)


class ExamplesTest(Case):
    def test_silent_signs_at_borders(self):
        template = Template(READER, [("slot", "x", EVERY), NOTHING, GO, ("piece", ()), ("slot", "y", EVERY)])
        document = Document.of_page(template, "prrqrpr")
        self.assertEqual(document.words(), ["p", "", "rrq", "", "rpr"])
        self.assertEqual((document.texts(), document.states(), len(document)), ({"x": "a", "y": "a"}, [0] * 6, 7))
        # The plain filling has other words for the same texts.
        plain = Document(template, {"y": "a", "x": "a"})
        self.assertEqual((plain.words(), list(plain.texts())), (["p", "", "q", "", "p"], ["x", "y"]))
        self.assertFalse(plain == document)

    def test_a_document_that_does_not_stand(self):
        # The slot has to begin where each text is written; another beginning suits this text alone.
        guess = Reader([{"q": (1, "go"), "r": (2, "go")}, {"p": (3, "a")}, {"p": (3, "a"), "q": (3, "b")}, {}], [3])
        chosen = Template(guess, [GO, ("slot", "x", Language.of("ab", "a", "b"))])
        self.assertIs(is_sealed(chosen), True)
        self.assertIs(Document.of_page(chosen, "qp").stands(), False)
        self.assertIs(Document.of_page(chosen, "rp").stands(), True)
        self.assertEqual(Document(chosen, {"x": "a"}).page, "rp")

    def test_stands_is_asked_for_the_states_behind_words_only(self):
        # By the words of [36] a document may stand though the template is not sealed.
        template = Template(Reader([{"p": (1, "a")}, {}], [1]), [("slot", "x", EVERY)])
        self.assertIs(is_sealed(template), False)
        document = Document.of_page(template, "p")
        self.assertIs(document.stands(), True)
        self.assertEqual(Document.of_page(page="p", template=template).texts(), {"x": "a"})

    def test_the_empty_page(self):
        template = Template(READER, [NOTHING, ("piece", ()), ("slot", "x", EVERY)])
        for document in [Document(template, {"x": ""}), Document.of_page(template, "")]:
            self.assertEqual((document.page, document.words(), document.states(), len(document)), ("", [""] * 3, [0] * 4, 0))
            self.assertEqual(document.texts(), {"x": ""})
        bare = Document(texts={}, template=Template(READER, [GO]))
        self.assertEqual((bare.texts(), bare.page, bare.words()), ({}, "q", ["q"]))

    def test_equality(self):
        template = Template(READER, [("slot", "x", EVERY), NOTHING])
        one, other = Document.of_page(template, "pr"), Document.of_page(Template(READER, template.parts()), "pr")
        self.assertTrue(one == other and not one != other)
        self.assertFalse(one == Document.of_page(template, "p") or one == Document.of_page(template, "rp"))
        self.assertFalse(one == Document.of_page(Template(READER, [("slot", "y", EVERY), NOTHING]), "pr"))
        # The same page with other words.
        other = Document.of_words(template, ["pr", ""])
        self.assertEqual((one.page, one.words(), other.page, other.words()), ("pr", ["p", "r"], "pr", ["pr", ""]))
        self.assertTrue(one != other and other == other.clone())
        for value in OTHER_VALUES + [template, "pr", ["p", "r"]]:
            self.assertFalse(one == value)
            self.assertTrue(one != value)

    def test_clones_and_new_results(self):
        template = Template(READER, [("slot", "x", EVERY), GO, ("slot", "y", EVERY)])
        document = Document.of_page(template, "pqpp")
        copy = document.clone()
        self.assertTrue(copy == document and copy.template == template)
        for result in [document.words(), document.states()]:
            result.append("z")
        texts = document.texts()
        texts["x"] = texts["z"] = "other"
        self.assertEqual((document.words(), document.states(), document.texts()), (["p", "q", "pp"], [0] * 4, {"x": "a", "y": "aa"}))
        copy.change("x", "aaa")
        self.assertEqual((document.page, copy.page), ("pqpp", "pppqpp"))
        document.change("y", "")
        self.assertEqual((document.page, copy.page), ("pq", "pppqpp"))
        self.assertFalse(copy == document)
        third = copy.clone()
        third.change("x", "a")
        self.assertEqual((third.page, copy.page, third.stands()), ("pqpp", "pppqpp", True))


class ErrorsTest(Case):
    TEMPLATE = Template(READER, [("slot", "x", Language.of("a", "a")), GO])
    REFUSED = Template(READER, [("slot", "x", Language.every("ab")), GO])

    def test_texts_come_before_not_sealed(self):
        for template in [self.TEMPLATE, self.REFUSED]:
            for value in OTHER_VALUES + ["", {"y": "a"}, {"x": "a", "y": "a"}, ["x"], [("x", "a")]]:
                with self.assertRaises(InvalidTexts) as caught:
                    Document(template, value)
                self.assertEqual((caught.exception.problem, caught.exception.name), ("names", None))
            for value in [value for value in OTHER_VALUES if value != ""] + ["c", "ac", 1, ["a"]]:
                with self.assertRaises(InvalidTexts) as caught:
                    Document(template, {"x": value})
                self.assertEqual((caught.exception.problem, caught.exception.name), ("text", "x"))
        with self.assertRaises(NotSealed) as caught:
            Document(self.REFUSED, {"x": "a"})
        self.assertIsNone(caught.exception.vector)

    def test_pages(self):
        for template in [self.TEMPLATE, self.REFUSED, Template(READER, [("said", ("other",))])]:
            for value in NOT_WORDS:
                self.fails(InvalidWord, value, lambda: Document.of_page(template, value))
            for page in ["", "z", "q", "ppqp", "ps", "x" * 400]:
                if template == self.REFUSED and page == "q":
                    continue
                with self.assertRaises(NotFilled) as caught:
                    Document.of_page(template, page)
                self.assertEqual(caught.exception.word, page)


class RepeatedTest(unittest.TestCase):
    def test_repeated_queries(self):
        rng = random.Random(404)
        for spec, parts, machines, template, fillings in filled_templates(405, 60, 4):
            page = rng.choice(sorted(fillings))
            before = repr((template.reader, template.parts()))
            one, other = Document.of_page(template, page), Document.of_page(template, page)
            for _ in range(2):
                self.assertEqual((one.words(), one.states(), one.texts(), one.stands(), one.page, len(one)),
                                 (other.words(), other.states(), other.texts(), other.stands(), other.page, len(other)))
                self.assertTrue(one == other)
            self.assertEqual(repr((template.reader, template.parts())), before)


if __name__ == "__main__":
    unittest.main()
