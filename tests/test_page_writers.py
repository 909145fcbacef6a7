"""[22] Writers of the pages of templates, part by part."""

import itertools
import unittest

from sealedslots.doors import Door
from sealedslots.errors import Finished, InvalidVector, InvalidWord, NotMember, NotSealed
from sealedslots.filling import is_filled, plain_filling
from sealedslots.languages import Language
from sealedslots.pages import passed, reading
from sealedslots.readers import Reader
from sealedslots.templates import Template
from sealedslots.vectors import is_sealed_under, sets_under
from sealedslots.writers import PageWriter, SlotWriter
from sealedslots.writings import least_word
from tests.cases import Case, made
from tests.door_samples import machine_of_texts
from tests.samples import OTHER_VALUES
from tests.slow_fill import texts_by_size
from tests.template_samples import other_templates, random_templates

READER = Reader([{"q": (1, "begin")}, {"p": (1, "a"), "q": (2, "end"), "r": (3, None)}, {}, {"q": (1, "b"), "r": (1, "a")}], [2])
BEGIN, END, GO = ("piece", (("q", "begin"),)), ("piece", (("q", "end"),)), ("said", ("go",))
EVERY = Language.every("ab")
TEMPLATE = Template(READER, [BEGIN, ("slot", "text", EVERY), END])


def state_of(writer):
    return writer.slot, writer.page, writer.texts()


def write(writer, texts):
    """Write all texts; the words that were written, those of the end of each slot last."""
    return [[writer.feed(sign) for sign in text] + [writer.end_slot()] for text in texts]


def slow_page(template, vector, texts):
    """The parts of the page, each written alone into the set behind it."""
    reader, sets, state, found = template.reader, sets_under(template, vector), template.reader.start, []
    entries, given = list(vector), list(texts)
    for index, part in enumerate(template.parts()):
        if part[0] == "piece":
            word = "".join(sign for sign, _ in part[1])
        elif part[0] == "said":
            known = [least_word(reader, state, part[1], last) for last in sets[index + 1]]
            word = min([word for word in known if word is not None], key=lambda word: (len(word), word))
        else:
            writer = SlotWriter(Door(reader, state, sets[index + 1], part[2]), entries.pop(0))
            for sign in given.pop(0):
                writer.feed(sign)
            writer.finish()
            word = writer.page
        state = passed(reader, state, word)[1]
        found.append(word)
    return found


class WritingTest(Case):
    def check(self, template, vector, texts):
        """Write the texts under the vector, without one if it is None."""
        names = template.slots()
        writer = PageWriter(template) if vector is None else PageWriter(template, vector)
        words = slow_page(template, (4,) * len(names) if vector is None else vector, texts)
        slots = [index for index, part in enumerate(template.parts()) if part[0] == "slot"] + [len(words)]
        page = "".join(words[:slots[0]])
        self.assertEqual(state_of(writer), (names[0] if names else None, page, {}))
        for number, text in enumerate(texts):
            here = ""
            for sign in text:
                here += writer.feed(sign)
                self.assertEqual(state_of(writer), (names[number], page + here, dict(zip(names, texts[:number]))))
            rest = "".join(words[slots[number]:slots[number + 1]])
            self.assertEqual(here + writer.end_slot(), rest)
            page += rest
            self.assertEqual(state_of(writer), ((names + [None])[number + 1], page, dict(zip(names, texts[:number + 1]))))
            self.assertEqual(list(writer.texts()), names[:number + 1])
        chosen = dict(zip(names, texts))
        self.assertEqual(writer.page, "".join(words))
        self.assertEqual(reading(template.reader, writer.page), template.row(chosen))
        self.assertIs(is_filled(template, chosen, writer.page), True)
        if vector is None or set(vector) <= {4}:
            self.assertEqual(writer.page, plain_filling(template, chosen))

    def test_random_templates(self):
        counts = {0: 0, 1: 0, 2: 0, 3: 0}
        for spec, parts, machines in random_templates(171, 600):
            template = Template(made(spec), parts)
            many = len(template.slots())
            for vector in [None, (4,) * many, (0,) * many, (1,) * many, (2,) * many]:
                if not is_sealed_under(template, (4,) * many if vector is None else vector):
                    with self.assertRaises(NotSealed) as caught:
                        PageWriter(template, vector)
                    self.assertIs(caught.exception.vector, vector)
                    continue
                for texts in texts_by_size(parts, machines, 3)[::3][:6]:
                    self.check(template, vector, texts)
                    counts[many] += 1
        self.assertGreater(min(counts[many] for many in [0, 1, 2]), 50, counts)

    def test_lesser_vectors(self):
        count = 0
        for spec, parts, machines in other_templates(172, 60):
            template = Template(made(spec), parts)
            for vector in itertools.product([0, 1, 3, 4], repeat=len(template.slots())):
                if is_sealed_under(template, vector):
                    for texts in texts_by_size(parts, machines, 4):
                        self.check(template, vector, texts)
                        count += len(set(vector)) > 1
        self.assertGreater(count, 200)

    def test_four_slots(self):
        reader = Reader([{"p": (1, "a"), "q": (2, "a"), "s": (0, "go")}, {"p": (0, "a"), "s": (0, None)}, {"p": (0, "b")}], [0])
        parts = [("said", ()), GO]
        for name in "wxyz":
            texts = ["aa", ""] if name == "y" else ["aa", "ab"]
            parts += [("slot", name, Language("ab", *machine_of_texts(texts))), GO]
        template = Template(reader, parts)
        for vector in [(1, 1, 0, 1), (4, 4, 4, 4), (1, 2, 3, 4), None]:
            for texts in itertools.product(["aa", "ab"], ["aa", "ab"], ["aa", ""], ["aa", "ab"]):
                self.check(template, vector, texts)
        for vector in [(0, 1, 0, 1), (1, 1, 0, 0), (0, 0, 0, 0)]:
            with self.assertRaises(NotSealed) as caught:
                PageWriter(template, vector)
            self.assertIs(caught.exception.vector, vector)

    def test_examples(self):
        writer = PageWriter(TEMPLATE)
        self.assertEqual(state_of(writer), ("text", "q", {}))
        self.assertEqual([writer.feed("a"), writer.feed("b"), writer.page], ["", "", "q"])
        self.assertEqual((writer.end_slot(), state_of(writer)), ("prqq", (None, "qprqq", {"text": "ab"})))
        writer = PageWriter(vector=(0,), template=TEMPLATE)
        self.assertEqual([writer.feed(sign="a"), writer.page, writer.feed("b"), writer.page], ["p", "qp", "rq", "qprq"])
        self.assertEqual((writer.end_slot(), state_of(writer)), ("q", (None, "qprqq", {"text": "ab"})))
        writer = PageWriter(TEMPLATE, (2,))
        self.assertEqual([writer.feed("a"), writer.feed("a"), writer.feed("b"), writer.end_slot()], ["", "", "p", "prqq"])

    def test_templates_without_slots(self):
        for vector in [None, ()]:
            writer = PageWriter(Template(READER, [BEGIN, ("said", ()), ("said", ("end",))]), vector)
            self.assertEqual(state_of(writer), (None, "qq", {}))
            for call in [lambda: writer.feed("a"), writer.end_slot]:
                with self.assertRaises(Finished) as caught:
                    call()
                self.assertEqual(caught.exception.word, "qq")

    def test_long_texts(self):
        for entry in range(5):
            writer = PageWriter(TEMPLATE, (entry,))
            write(writer, ["ab" * 30])
            self.assertEqual((writer.page, writer.texts()), ("q" + "prq" * 30 + "q", {"text": "ab" * 30}))


class ErrorsTest(Case):
    def unchanged(self, error, writer, call):
        before = state_of(writer)
        with self.assertRaises(error) as caught:
            call()
        self.assertEqual(state_of(writer), before)
        return caught.exception

    def test_making(self):
        refused = Template(READER, [BEGIN, ("slot", "text", Language.every("abc")), END])
        for template in [TEMPLATE, refused]:
            for value in OTHER_VALUES + [[0], (5,), (-1,), (True,), (False,), (None,), (0, 0), ("0",), 0, "0", ([],)]:
                if value is not None:
                    self.fails(InvalidVector, value, lambda: PageWriter(template, value))
        for vector in [None, (4,), (0,)]:
            with self.assertRaises(NotSealed) as caught:
                PageWriter(refused, vector)
            self.assertIs(caught.exception.vector, vector)
        with self.assertRaises(NotSealed) as caught:
            PageWriter(refused)
        self.assertIsNone(caught.exception.vector)

    def test_feeding(self):
        language = Language.of("ab", "ab", "abb")
        template = Template(READER, [BEGIN, ("slot", "text", language), END])
        for vector in [None, (0,), (1,), (4,)]:
            writer = PageWriter(template, vector)
            for value in OTHER_VALUES + ["", "ab", 0]:
                self.assertIs(self.unchanged(InvalidWord, writer, lambda: writer.feed(value)).value, value)
            self.assertEqual(self.unchanged(NotMember, writer, lambda: writer.feed("b")).word, "b")
            self.assertEqual(self.unchanged(NotMember, writer, writer.end_slot).word, "")
            writer.feed("a")
            self.assertEqual(self.unchanged(NotMember, writer, lambda: writer.feed("z")).word, "az")
            self.assertEqual(self.unchanged(NotMember, writer, writer.end_slot).word, "a")
            writer.feed("b")
            writer.end_slot()
            for call in [lambda: writer.feed("b"), lambda: writer.feed("z"), writer.end_slot]:
                self.assertEqual(self.unchanged(Finished, writer, call).word, "qprqq")
            for value in OTHER_VALUES + ["", "ab", 0]:
                self.assertIs(self.unchanged(InvalidWord, writer, lambda: writer.feed(value)).value, value)

    def test_returned_dicts_are_new(self):
        writer = PageWriter(TEMPLATE)
        writer.texts()["text"] = "a"
        self.assertEqual(writer.texts(), {})
        writer.end_slot()
        writer.texts().clear()
        self.assertEqual(writer.texts(), {"text": ""})


class CloneTest(Case):
    def test_clones_in_each_state(self):
        reader = Reader([{"p": (0, "a"), "q": (0, "b"), "r": (1, "go")}, {"p": (1, "a"), "q": (1, "b"), "s": (2, "end")}, {}], [2])
        template = Template(reader, [("slot", "x", EVERY), GO, ("slot", "y", EVERY), ("said", ("end",))])
        for vector in [None, (1, 2), (0, 4)]:
            events = list("ab.b.")
            for place in range(len(events) + 1):
                writer = PageWriter(template, vector)
                words = [self.do(writer, event) for event in events[:place]]
                copy = writer.clone()
                self.assertIs(type(copy), PageWriter)
                before = state_of(writer)
                self.assertEqual(state_of(copy), before)
                rest = [self.do(copy, event) for event in events[place:]]
                self.assertEqual(state_of(writer), before)
                self.assertEqual((copy.page, copy.texts(), copy.slot), ("pqrqs", {"x": "ab", "y": "b"}, None))
                self.assertEqual("".join(words + rest), "pqrqs")
                if place < 3:
                    self.do(writer, "a")
                    self.assertEqual((copy.page, copy.texts()), ("pqrqs", {"x": "ab", "y": "b"}))
                    self.do(writer, ".")
                    writer.end_slot()
                    self.assertEqual(writer.texts()["x"], "ab"[:place] + "a")
                    self.assertEqual((copy.page, copy.texts()), ("pqrqs", {"x": "ab", "y": "b"}))
                if place == len(events):
                    self.assertRaises(Finished, copy.end_slot)

    def do(self, writer, event):
        return writer.end_slot() if event == "." else writer.feed(event)


if __name__ == "__main__":
    unittest.main()
