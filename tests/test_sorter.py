"""[42] Sorters: compared with slow courses sign by sign."""

import itertools
import random
import unittest

from sealedslots.errors import InvalidTemplates, InvalidWord, NotApart, ReadersDiffer
from sealedslots.filling import texts_in
from sealedslots.languages import Language
from sealedslots.readers import Reader
from sealedslots.sorter import Sorter
from sealedslots.templates import Template
from tests.cases import NOT_WORDS, Case
from tests.samples import OTHER_VALUES, walk, words
from tests.several_samples import random_pairs
from tests.slow_several import common_page

GO, STOP, NOTHING = ("said", ("go",)), ("said", ("stop",)), ("said", ())
EVERY, SOME = Language.every("ab"), Language.of("ab", "", "a", "ab")
READER = Reader([{"p": (0, "a"), "q": (0, "go"), "r": (0, None), "s": (0, "b"), "t": (0, "stop")}], [0])


def apart_templates(seed, count):
    """(spec, templates, courses): two to six templates that are apart."""
    for spec, found in random_pairs(seed, count, many=8):
        chosen = []
        for template, course in found:
            if len(chosen) < 6 and all(common_page(course, known) is None for _, known in chosen):
                chosen.append((template, course))
        if len(chosen) > 1:
            yield spec, [template for template, _ in chosen], [course for _, course in chosen]


def texts_so_far(spec, course, page):
    """[42]: what was told between the marks around each slot, of a template that goes on with the page."""
    row, _ = walk(spec[0], spec[2], page)
    texts, marks = {}, 0
    for part in course.parts:
        if part[0] == "slot":
            between = [name if len(name) == 1 else "|" for name in row]
            pieces = "".join(between).split("|")
            texts[part[1]] = pieces[marks] if marks < len(pieces) else ""
        elif part[0] == "said":
            marks += len(part[1])
        else:
            marks += len([told for _, told in part[1] if told is not None])
    return texts


class SlowTest(Case):
    def check(self, sorter, spec, templates, courses, page, counts):
        wanted = tuple(index for index, course in enumerate(courses) if course.goes_on(page))
        self.assertEqual((sorter.page, sorter.candidates, type(sorter.candidates)), (page, wanted, tuple))
        self.assertEqual(sorter.sure, wanted[0] if len(wanted) == 1 else None)
        full = [index for index, template in enumerate(templates) if texts_in(template, page) is not None]
        self.assertLessEqual(len(full), 1)
        self.assertEqual(sorter.winner(), full[0] if full else None)
        found = sorter.texts_so_far()
        if len(wanted) == 1:
            texts = texts_so_far(spec, courses[wanted[0]], page)
            self.assertEqual(list(found.items()), list(texts.items()))
            if full:
                self.assertEqual(found, texts_in(templates[full[0]], page))
            counts["texts"] += any(texts.values())
        else:
            self.assertIsNone(found)
        lost = [many for many in range(len(page) + 1) if not any(course.goes_on(page[:many]) for course in courses)]
        self.assertEqual(sorter.strayed_at, lost[0] if lost else None)
        counts["sure" if len(wanted) == 1 else "open" if wanted else "lost"] += 1
        counts["won"] += bool(full)

    def test_each_sign(self):
        rng = random.Random(451)
        counts = dict.fromkeys(["texts", "sure", "open", "lost", "won", "six", "never"], 0)
        for spec, templates, courses in apart_templates(452, 150):
            first = Sorter(templates)
            self.assertEqual(len(first), len(templates))
            counts["six"] += len(templates) == 6
            counts["never"] += not first.candidates
            for _ in range(6):
                sorter, page = first.clone(), ""
                self.check(sorter, spec, templates, courses, page, counts)
                for _ in range(rng.randint(1, 8)):
                    signs = [sign for sign in "pqr" if any(course.goes_on(page + sign) for course in courses)]
                    sign = rng.choice(signs) if signs and rng.random() < 0.85 else rng.choice("pqrz")
                    page += sign
                    found = sorter.feed(sign)
                    self.assertEqual(found, sorter.candidates)
                    self.check(sorter, spec, templates, courses, page, counts)
            self.assertEqual((first.page, first.candidates), ("", tuple(i for i, course in enumerate(courses) if course.goes_on(""))))
        self.assertGreater(min(counts.values()), 10, counts)

    def test_templates_that_are_not_apart(self):
        refused = 0
        for spec, found in random_pairs(453, 120, many=4):
            templates, courses = [template for template, _ in found], [course for _, course in found]
            pages = {pair: common_page(courses[pair[0]], courses[pair[1]]) for pair in itertools.combinations(range(4), 2)}
            common = [pair for pair in sorted(pages) if pages[pair] is not None]
            if not common:
                self.assertEqual(len(Sorter(tuple(templates))), 4)
                continue
            with self.assertRaises(NotApart) as caught:
                Sorter(templates)
            error = caught.exception
            self.assertEqual((error.one, error.other, error.word), common[0] + (pages[common[0]],))
            refused += 1
        self.assertGreater(refused, 30)


class ExamplesTest(Case):
    def templates(self):
        return [Template(READER, [("slot", "x", SOME), GO, ("slot", "y", EVERY)]), Template(READER, [("slot", "z", EVERY), STOP]),
                Template(READER, [("slot", "w", Language.of("ab", "b")), ("said", ("go", "stop"))])]

    def test_a_page(self):
        # A text b can be that of z or of w; a can be that of x or of z.
        templates = [Template(READER, [("slot", "x", SOME), GO, ("slot", "y", EVERY), GO]), Template(READER, [("slot", "z", EVERY), STOP]),
                     Template(READER, [("slot", "w", Language.of("ab", "b")), ("said", ("go", "stop"))])]
        sorter = Sorter(templates)
        self.assertEqual((sorter.candidates, sorter.sure, sorter.texts_so_far(), sorter.winner()), ((0, 1, 2), None, None, None))
        self.assertEqual(sorter.feed("p"), (0, 1))
        self.assertEqual(sorter.feed("r"), (0, 1))
        self.assertEqual(sorter.feed("s"), (0, 1))
        self.assertEqual(sorter.feed("q"), (0,))
        self.assertEqual((sorter.sure, sorter.texts_so_far(), sorter.winner()), (0, {"x": "ab", "y": ""}, None))
        sorter.feed("s")
        self.assertEqual(list(sorter.texts_so_far().items()), [("x", "ab"), ("y", "b")])
        self.assertEqual((sorter.feed("q"), sorter.winner()), ((0,), 0))
        self.assertEqual((sorter.feed("r"), sorter.winner(), sorter.strayed_at), ((0,), 0, None))
        self.assertEqual((sorter.feed("t"), sorter.winner(), sorter.strayed_at, sorter.texts_so_far()), ((), None, 8, None))
        self.assertEqual((sorter.page, sorter.sure, len(sorter)), ("prsqsqrt", None, 3))

    def test_it_reads_on_without_candidates(self):
        sorter = Sorter(self.templates()[1:])
        for sign, page in zip("zyp", ["z", "zy", "zyp"]):
            self.assertEqual(sorter.feed(sign), ())
            self.assertEqual((sorter.page, sorter.candidates, sorter.strayed_at), (page, (), 1))
        self.assertEqual((sorter.winner(), sorter.sure, sorter.texts_so_far()), (None, None, None))

    def test_no_candidates_from_the_beginning(self):
        never = Template(READER, [("said", ("other",))])
        sorter = Sorter([never, Template(READER, [("slot", "x", Language.of("c", "c"))])])
        self.assertEqual((sorter.candidates, sorter.sure, sorter.strayed_at, sorter.winner()), ((), None, 0, None))
        sorter.feed("p")
        self.assertEqual((sorter.page, sorter.strayed_at, sorter.candidates), ("p", 0, ()))
        alone = Sorter((never, Template(READER, [GO])))
        self.assertEqual((alone.candidates, alone.sure, alone.texts_so_far(), alone.strayed_at), ((1,), 1, {}, None))

    def test_six_templates(self):
        templates = [Template(READER, [("said", marks), ("slot", "x", EVERY)]) for marks in
                     [("go", "go"), ("go", "stop"), ("stop", "go"), ("stop", "stop", "go"), ("stop", "stop", "stop"), ()]]
        sorter = Sorter(templates)
        self.assertEqual(sorter.candidates, (0, 1, 2, 3, 4, 5))
        self.assertEqual([sorter.feed(sign) for sign in "rttqs"], [(0, 1, 2, 3, 4, 5), (2, 3, 4), (3, 4), (3,), (3,)])
        self.assertEqual((sorter.winner(), sorter.texts_so_far()), (3, {"x": "b"}))

    def test_clones(self):
        sorter = Sorter(self.templates()[:2])
        sorter.feed("p")
        copy = sorter.clone()
        self.assertEqual((copy.page, copy.candidates, len(copy)), ("p", (0, 1), 2))
        copy.feed("q")
        sorter.feed("t")
        self.assertEqual((copy.page, copy.sure, copy.winner(), copy.texts_so_far()), ("pq", 0, 0, {"x": "a", "y": ""}))
        self.assertEqual((sorter.page, sorter.sure, sorter.winner(), sorter.texts_so_far()), ("pt", 1, 1, {"z": "a"}))
        third = copy.clone()
        third.feed("z")
        self.assertEqual((third.strayed_at, copy.strayed_at, third.clone().strayed_at), (3, None, 3))

    def test_equality(self):
        sorter = Sorter(self.templates()[:2])
        self.assertTrue(sorter == sorter)
        for value in OTHER_VALUES + [self.templates(), self.templates()[0], "", 2]:
            self.assertFalse(sorter == value)
            self.assertTrue(sorter != value)

    def test_two_sorters_of_the_same_templates(self):
        templates = self.templates()[:2]
        one, other = Sorter(templates), Sorter(templates=templates)
        templates.append(None)
        one.feed(sign="q")
        self.assertEqual((one.page, one.candidates, other.page, other.candidates, len(one)), ("q", (0,), "", (0, 1), 2))
        texts = one.texts_so_far()
        texts["x"] = texts["q"] = "z"
        self.assertEqual(one.texts_so_far(), {"x": "", "y": ""})


class ErrorsTest(Case):
    ONE, OTHER = Template(READER, [GO]), Template(READER, [STOP])

    def wrong(self, problem, place, value):
        with self.assertRaises(InvalidTemplates) as caught:
            Sorter(value)
        self.assertEqual((caught.exception.problem, caught.exception.place), (problem, place))

    def test_templates(self):
        for value in OTHER_VALUES + ["", "ab", 0, self.ONE, [self.ONE], (self.OTHER,), [self.ONE, self.OTHER] * 4, [None], [None] * 7,
                                     {0: self.ONE, 1: self.OTHER}, ()]:
            if not isinstance(value, (list, tuple)) or not 2 <= len(value) <= 6:
                self.wrong("templates", None, value)
        different = Template(Reader([{}]), [GO])
        for value in OTHER_VALUES + [READER, [GO], "template", 5]:
            self.wrong("template", 0, [value, self.OTHER])
            self.wrong("template", 2, (self.ONE, self.ONE, value, value))
            self.wrong("template", 2, (self.ONE, different, value))

    def test_readers(self):
        different = Template(Reader([{"q": (0, "go")}], [0]), [GO])
        for value, place in [([self.ONE, different], 1), ([different, self.ONE], 1), ((self.ONE, self.ONE, self.OTHER, different, different), 3)]:
            with self.assertRaises(ReadersDiffer) as caught:
                Sorter(value)
            self.assertEqual(caught.exception.place, place)

    def test_pairs_in_sorted_order(self):
        every = Template(READER, [("slot", "x", EVERY)])
        for value, wanted in [([self.ONE, self.ONE], (0, 1, "q")), ([self.ONE, self.OTHER, self.OTHER, self.ONE], (0, 3, "q")),
                              ((self.ONE, self.OTHER, every, self.OTHER, every), (1, 3, "t")), ([self.ONE, every, every], (1, 2, "")),
                              ([self.ONE, Template(READER, [NOTHING, GO, ("slot", "y", EVERY)])], (0, 1, "q"))]:
            with self.assertRaises(NotApart) as caught:
                Sorter(value)
            error = caught.exception
            self.assertEqual((error.one, error.other, error.word), wanted)

    def test_signs(self):
        sorter = Sorter([self.ONE, self.OTHER])
        sorter.feed("q")
        for value in NOT_WORDS + ["", "qq", "pq", "go"]:
            self.fails(InvalidWord, value, lambda: sorter.feed(value))
            self.assertEqual((sorter.page, sorter.candidates, sorter.strayed_at, sorter.winner()), ("q", (0,), None, 0))
        sorter.feed("q")
        for value in NOT_WORDS:
            self.fails(InvalidWord, value, lambda: sorter.feed(value))
        self.assertEqual((sorter.page, sorter.strayed_at), ("qq", 2))


class ReadBackTest(unittest.TestCase):
    def test_the_winner_has_the_texts(self):
        won = 0
        for spec, templates, courses in apart_templates(454, 60):
            first = Sorter(templates)
            for page in words("pqr", 4):
                sorter = first.clone()
                for sign in page:
                    sorter.feed(sign)
                index = sorter.winner()
                if index is not None:
                    texts = texts_in(templates[index], page)
                    self.assertIsNotNone(texts)
                    won += 1
                    if sorter.sure is not None:
                        self.assertEqual((sorter.sure, sorter.texts_so_far()), (index, texts))
        self.assertGreater(won, 300)


if __name__ == "__main__":
    unittest.main()
