"""[13], [22] Pages that fill templates: compared with slow divisions of all short pages."""

import random
import unittest

from sealedslots.errors import InvalidTexts, InvalidWord, NotSealed
from sealedslots.filling import is_filled, least_filling, plain_filling, texts_in
from sealedslots.languages import Language
from sealedslots.pages import reading
from sealedslots.readers import Reader
from sealedslots.sealing import is_sealed
from sealedslots.templates import Template
from tests.cases import NOT_WORDS, Case, made
from tests.samples import OTHER_VALUES, words
from tests.slow_fill import has_page, plain_words, short_fillings, slots_of, texts_by_size
from tests.slow import rows_of_words
from tests.template_samples import random_templates

BEGIN, END, GO = ("piece", (("q", "begin"),)), ("piece", (("q", "end"),)), ("said", ("go",))
READER = Reader([{"q": (1, "begin")}, {"p": (1, "a"), "q": (2, "end"), "r": (3, None)}, {}, {"q": (1, "b"), "r": (1, "a")}], [2])
EVERY = Language.every("ab")
MOST = 6


def slot(name, language=EVERY):
    return ("slot", name, language)


def small_templates(seed, count):
    """(spec, parts, machines, the short pages that fill it): most have some, and the others are as many at most."""
    empty = 0
    for spec, parts, machines in random_templates(seed, count, page_signs="pqr", density=0.9,
                                                  told=(None, None, "a", "a", "b", "go", "go", "stop")):
        fillings = short_fillings(spec, parts, machines, "pqr", MOST)
        empty += 1 if not fillings else -1
        if fillings or empty < 5:
            yield spec, parts, machines, fillings


class ShortPagesTest(Case):
    def test_all_short_pages(self):
        pages, filled, refused = list(words("pqrz", 4)) + list(words("pqr", MOST)), 0, 0
        for spec, parts, machines, fillings in small_templates(101, 300):
            template = Template(made(spec), parts)
            names = slots_of(parts)
            for page in pages:
                known = fillings.get(page, set())
                self.assertLessEqual(len(known), 1)
                wanted = dict(zip(names, *known)) if known else None
                found = texts_in(template, page)
                self.assertEqual(found, wanted)
                if found is not None:
                    self.assertEqual(list(found), names)
                    self.assertIs(is_filled(template, found, page), True)
                    self.assertEqual(reading(template.reader, page), template.row(found))
                    filled += 1
            for chosen in texts_by_size(parts, machines, 2)[:6]:
                for page in list(fillings)[:20] + ["", "p", "z"]:
                    wanted = chosen in fillings.get(page, set())
                    self.assertIs(is_filled(template, dict(zip(names, chosen)), page), wanted)
                    refused += not wanted
        self.assertGreater(filled, 3000)
        self.assertGreater(refused, 3000)

    def test_least_fillings(self):
        short, long, none, others = 0, 0, 0, 0
        for spec, parts, machines, fillings in small_templates(102, 900):
            template = Template(made(spec), parts)
            firsts = {}
            for page, texts in fillings.items():
                for chosen in texts:
                    firsts.setdefault(chosen, page)
            for chosen in texts_by_size(parts, machines, 3)[:40]:
                texts = dict(zip(slots_of(parts), chosen))
                found = least_filling(template, texts)
                if chosen in firsts:
                    self.assertEqual(found, firsts[chosen])
                    short += 1
                elif found is None:
                    self.assertFalse(has_page(spec, parts, texts))
                    none += 1
                else:
                    self.assertGreater(len(found), MOST)
                    self.assertIs(is_filled(template, texts, found), True)
                    long += 1
                if found is not None:
                    self.assertEqual(texts_in(template, found), texts)
                others += found is not None and not is_sealed(template)
        self.assertGreater(short, 500)
        self.assertGreater(none, 200)
        self.assertGreater(long, 20)
        self.assertGreater(others, 100)

    def test_plain_fillings(self):
        found, refused = 0, 0
        for spec, parts, machines, _ in small_templates(103, 600):
            template = Template(made(spec), parts)
            tables = rows_of_words(spec[0], "pqr", 5)
            for chosen in texts_by_size(parts, machines, 3)[:15]:
                texts = dict(zip(slots_of(parts), chosen))
                if not is_sealed(template):
                    with self.assertRaises(NotSealed) as caught:
                        plain_filling(template, texts)
                    self.assertIsNone(caught.exception.vector)
                    refused += 1
                    continue
                page = plain_filling(template, texts)
                wanted = plain_words(spec, parts, machines, texts, tables)
                if wanted is not None:
                    self.assertEqual(page, "".join(wanted))
                    found += 1
                self.assertEqual(reading(template.reader, page), template.row(texts))
                self.assertIs(is_filled(template, texts, page), True)
        self.assertGreater(found, 150)
        self.assertGreater(refused, 200)


class ExamplesTest(Case):
    def setUp(self):
        self.template = Template(READER, [BEGIN, slot("text"), END])

    def test_the_example_of_the_document(self):
        self.assertEqual(plain_filling(self.template, {"text": "ab"}), "qprqq")
        self.assertEqual(least_filling(self.template, {"text": "ab"}), "qprqq")
        self.assertEqual(texts_in(self.template, "qrrrqq"), {"text": "ab"})
        self.assertIs(is_filled(self.template, {"text": "ab"}, "qrrrqq"), True)
        self.assertIs(is_filled(self.template, {"text": "aa"}, "qrrrqq"), False)

    def test_names_of_the_arguments(self):
        self.assertIs(is_filled(page="qprqq", texts={"text": "ab"}, template=self.template), True)
        self.assertEqual(texts_in(page="qprqq", template=self.template), {"text": "ab"})
        self.assertEqual(least_filling(texts={"text": ""}, template=self.template), "qq")
        self.assertEqual(plain_filling(texts={"text": "b"}, template=self.template), "qrqq")

    def test_pages_that_do_not_fill(self):
        for page in ["", "q", "qp", "qpq" * 2, "qqq", "qz", "z", "qprq", "x" * 400]:
            self.assertIsNone(texts_in(self.template, page))
            self.assertIs(is_filled(self.template, {"text": ""}, page), False)
        short = Template(READER, [BEGIN, slot("text", Language.of("ab", "a")), END])
        self.assertEqual(texts_in(short, "qpq"), {"text": "a"})
        for page in ["qq", "qrqq", "qppq"]:
            self.assertIsNone(texts_in(short, page))

    def test_pieces_tell_which_signs_they_have(self):
        # Both signs tell the mark silently or not: only the very signs of the piece fill it.
        reader = Reader([{"p": (0, "go"), "q": (0, "go"), "r": (0, None), "s": (0, "a")}], [0])
        template = Template(reader, [("piece", (("p", "go"), ("r", None))), slot("x", Language.every("a")), ("said", ("go",)),
                                     ("piece", (("r", None),))])
        self.assertEqual(texts_in(template, "prsqr"), {"x": "a"})
        self.assertEqual(texts_in(template, "prrsrrqrr"), {"x": "a"})
        for page in ["qrsqr", "psqr", "prsq", "prqs", "prsrqs", "rprsqr"]:
            self.assertIsNone(texts_in(template, page))
            self.assertIs(is_filled(template, {"x": "a"}, page), False)
        self.assertEqual(least_filling(template, {"x": "aa"}), "prsspr")

    def test_silent_moves_at_the_borders(self):
        reader = Reader([{"p": (0, None), "q": (0, "go"), "s": (0, "a")}], [0])
        template = Template(reader, [slot("x", Language.every("a")), GO, slot("y", Language.every("a")), ("said", ())])
        for page in ["q", "pq", "qp", "pqp", "ppppqpppp"]:
            self.assertEqual(texts_in(template, page), {"x": "", "y": ""})
        self.assertEqual(texts_in(template, "pspspqpsp"), {"x": "aa", "y": "a"})
        self.assertEqual(least_filling(template, {"y": "a", "x": "aa"}), "ssqs")
        only = Template(reader, [("piece", ()), ("piece", (("p", None),)), ("said", ()), ("piece", (("p", None),))])
        self.assertEqual([page for page in words("pqs", 4) if texts_in(only, page) is not None], ["pp", "ppp", "pppp"])
        self.assertEqual(texts_in(only, "pp"), {})
        self.assertEqual(least_filling(only, {}), "pp")

    def test_greedy_words_are_not_the_least_page(self):
        # The least word for the slot leads to 1, from where the mark is far; or to a state from which it is never told.
        far = Reader([{"p": (1, "a"), "q": (2, "a")}, {"p": (3, None)}, {"p": (5, "go")}, {"p": (4, None)}, {"p": (5, "go")}, {}],
                     [5])
        template = Template(far, [slot("x", Language.of("a", "a")), GO])
        self.assertEqual(plain_filling(template, {"x": "a"}), "pppp")
        self.assertEqual(least_filling(template, {"x": "a"}), "qp")
        lost = Reader([{"p": (1, "a"), "q": (2, "a")}, {}, {"p": (3, "go")}, {}], [3])
        template = Template(lost, [slot("x", Language.of("a", "a")), GO])
        self.assertEqual(least_filling(template, {"x": "a"}), "qp")
        self.assertEqual(plain_filling(template, {"x": "a"}), "qp")

    def test_the_same_word_for_several_divisions(self):
        # The silent p belongs to the slot or to the piece: the least page goes on with what any division allows.
        reader = Reader([{"p": (1, None), "q": (0, "a")}, {"p": (2, None), "q": (3, "go")}, {"q": (3, "stop"), "r": (3, "go")}, {}],
                        [3])
        template = Template(reader, [slot("x", Language.every("a")), ("piece", (("p", None),)), GO])
        self.assertEqual(least_filling(template, {"x": ""}), "pq")
        self.assertEqual(texts_in(template, "qppr"), {"x": "a"})
        self.assertEqual(texts_in(template, "qpq"), {"x": "a"})
        self.assertIsNone(texts_in(template, "qppq"))

    def test_the_least_word_may_belong_to_several_parts(self):
        # Behind p, the said part may go on, or the piece is read already: only then b may follow, which is less than p.
        reader = Reader([{"p": (1, None)}, {"p": (2, None), "b": (3, None)}, {"x": (4, "go")}, {"x": (4, "go")}, {}], [4])
        template = Template(reader, [("said", ()), ("piece", (("p", None),)), GO])
        self.assertEqual([page for page in words("bpx", 4) if texts_in(template, page) is not None], ["pbx", "ppx"])
        self.assertEqual(least_filling(template, {}), "pbx")

    def test_pieces_have_no_other_signs(self):
        reader = Reader([{"p": (1, None)}, {"r": (2, None)}, {"q": (3, "go")}, {}], [3])
        pieces = [("piece", (("p", None),)), ("piece", (("q", "go"),))]
        self.assertIsNone(least_filling(Template(reader, pieces), {}))
        self.assertIsNone(least_filling(Template(reader, [("piece", (("p", None), ("q", "go")))]), {}))
        self.assertIsNone(texts_in(Template(reader, pieces), "prq"))
        self.assertEqual(least_filling(Template(reader, [pieces[0], ("said", ()), pieces[1]]), {}), "prq")

    def test_templates_without_slots(self):
        template = Template(READER, [("said", ("begin",)), END])
        self.assertEqual(texts_in(template, "qq"), {})
        self.assertIsNone(texts_in(template, "qpq"))
        self.assertIs(is_filled(template, {}, "qq"), True)
        self.assertEqual(least_filling(template, {}), "qq")
        self.assertEqual(plain_filling(template, {}), "qq")
        self.assertIsNone(least_filling(Template(READER, [("said", ("other",))]), {}))

    def test_what_the_reader_does_not_have(self):
        for part in [("piece", (("z", None),)), ("piece", (("q", "other"),)), ("said", ("other",))]:
            template = Template(READER, [BEGIN, slot("x"), part, END])
            self.assertIsNone(least_filling(template, {"x": "a"}))
            for page in ["qq", "qpq", "qzq"]:
                self.assertIsNone(texts_in(template, page))
        nowhere = Template(Reader([{"p": (0, "a")}]), [slot("x")])
        self.assertIsNone(least_filling(nowhere, {"x": ""}))
        self.assertIsNone(texts_in(nowhere, ""))
        other = Template(READER, [BEGIN, slot("x", Language.every("abc")), END])
        self.assertIsNone(least_filling(other, {"x": "c"}))
        self.assertEqual(least_filling(other, {"x": "a"}), "qpq")

    def test_long_pages(self):
        page = "q" + "rq" * 60 + "q"
        self.assertEqual(plain_filling(self.template, {"text": "b" * 60}), page)
        self.assertEqual(least_filling(self.template, {"text": "b" * 60}), page)
        self.assertEqual(texts_in(self.template, page), {"text": "b" * 60})

    def test_four_slots(self):
        reader = Reader([{"p": (0, "a"), "q": (0, "b"), "r": (1, "go")}, {"p": (1, "b"), "r": (0, "go"), "q": (1, None)}], [1])
        parts = [slot("z"), GO, slot("b", Language.every("b")), GO, slot("c"), GO, slot("a", Language.every("b"))]
        template = Template(reader, parts)
        texts = {"a": "b", "b": "bb", "c": "ab", "z": ""}
        page = "rpprpqrp"
        self.assertEqual(least_filling(template, texts), page)
        self.assertEqual(plain_filling(template, texts), page)
        self.assertEqual(list(texts_in(template, page).items()), [("z", ""), ("b", "bb"), ("c", "ab"), ("a", "b")])


OTHER_NAMES = OTHER_VALUES + ["", "x", ["x"], {"x"}, {"y": ""}, {"x": "", "y": ""}, {"X": ""}, {None: ""}, {("x",): ""},
                              [("x", "")]]
NO_TEXTS = [value for value in OTHER_VALUES + ["z", "abd", ["a", "b"], 0] if value != ""]


class ErrorsTest(Case):
    def setUp(self):
        self.template = Template(READER, [BEGIN, slot("x"), END])
        self.refused = Template(READER, [BEGIN, slot("x", Language.every("abc")), END])

    def wrong(self, problem, name, template, texts):
        calls = [lambda: is_filled(template, texts, "qq"), lambda: is_filled(template, texts, ""),
                 lambda: least_filling(template, texts), lambda: plain_filling(template, texts)]
        for call in calls:
            with self.assertRaises(InvalidTexts) as caught:
                call()
            self.assertEqual((caught.exception.problem, caught.exception.name), (problem, name))

    def test_texts(self):
        for template in [self.template, self.refused]:
            for value in OTHER_NAMES:
                self.wrong("names", None, template, value)
            for text in NO_TEXTS:
                self.wrong("text", "x", template, {"x": text})
        two = Template(READER, [slot("x"), GO, slot("y", Language.of("ab", "b"))])
        self.wrong("text", "x", two, {"y": "a", "x": "c"})
        self.wrong("text", "y", two, {"y": "a", "x": "a"})
        self.wrong("names", None, Template(READER, [BEGIN]), {"x": ""})

    def test_pages(self):
        for value in NOT_WORDS:
            self.fails(InvalidWord, value, lambda: is_filled(self.template, {"x": ""}, value))
            self.fails(InvalidWord, value, lambda: texts_in(self.template, value))

    def test_pages_come_before_texts(self):
        for value in NOT_WORDS:
            for texts in OTHER_NAMES + [{"x": text} for text in NO_TEXTS]:
                self.fails(InvalidWord, value, lambda: is_filled(self.template, texts, value))
                self.fails(InvalidWord, value, lambda: is_filled(page=value, texts=texts, template=self.refused))
            self.fails(InvalidWord, value, lambda: is_filled(Template(READER, [BEGIN]), {"x": ""}, value))

    def test_not_sealed(self):
        with self.assertRaises(NotSealed) as caught:
            plain_filling(self.refused, {"x": "a"})
        self.assertIsNone(caught.exception.vector)
        self.assertEqual(least_filling(self.refused, {"x": "a"}), "qpq")


class RepeatedTest(unittest.TestCase):
    def test_repeated_queries_and_new_results(self):
        rng = random.Random(104)
        for spec, parts, machines, _ in small_templates(105, 60):
            template = Template(made(spec), parts)
            texts = dict(zip(slots_of(parts), rng.choice(texts_by_size(parts, machines, 3))))
            before = (repr(template.reader), repr(template.parts()), dict(texts))
            page = least_filling(template, texts)
            self.assertEqual(least_filling(template, texts), page)
            if page is not None:
                found = texts_in(template, page)
                found["x"] = found["other"] = 1
                self.assertEqual(texts_in(template, page), texts)
            self.assertEqual((repr(template.reader), repr(template.parts()), texts), before)


if __name__ == "__main__":
    unittest.main()
