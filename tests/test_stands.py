"""[40], [41] Stands of templates, and with which words they go on: compared with slow divisions of short words."""

import random
import unittest

from sealedslots.errors import InvalidWord
from sealedslots.filling import texts_in
from sealedslots.languages import Language
from sealedslots.readers import Reader
from sealedslots.several import first_stands, goes_on, least_continuation, stands_behind, strays_at
from sealedslots.templates import Template
from tests.cases import NOT_WORDS, Case
from tests.samples import words
from tests.several_samples import random_pairs
from tests.slow_several import divided_stands

GO, NOTHING, EMPTY = ("said", ("go",)), ("said", ()), ("piece", ())
EVERY = Language.every("ab")
READER = Reader([{"p": (0, "a"), "q": (0, "go"), "r": (0, None), "s": (1, "b")}, {"p": (1, "a"), "t": (0, "stop")}], [0])


class SlowTest(Case):
    def test_stands_behind_short_words(self):
        counts = {"none": 0, "one": 0, "more": 0, "end": 0}
        for spec, pair in random_pairs(431, 250):
            for template, course in pair:
                self.assertEqual(first_stands(template), sorted(course.first()[1]))
                for word in list(words("pqr", 4)) + ["z", "pz"]:
                    wanted = sorted(divided_stands(course, word))
                    found = stands_behind(template, word)
                    self.assertEqual((type(found), found), (list, wanted))
                    node = course.behind_word(word)
                    self.assertEqual(wanted, [] if node is None else sorted(node[1]))
                    counts[("none", "one", "more")[min(len(found), 2)]] += 1
                    counts["end"] += (len(template), 0) in found
                    # By [40], a page fills the template exactly so.
                    full = (len(template), 0) in found and node[0] in spec[1]
                    self.assertEqual(texts_in(template, word) is not None, full)
        self.assertGreater(min(counts.values()), 1000, counts)

    def test_words_with_which_templates_go_on(self):
        counts = {True: 0, False: 0, "never": 0}
        for spec, pair in random_pairs(432, 300):
            for template, course in pair:
                for word in list(words("pqr", 3)) + ["z", "pz", "zp"]:
                    wanted = course.least_rest(course.behind_word(word))
                    self.assertEqual(least_continuation(template, word), wanted)
                    self.assertIs(goes_on(template, word), wanted is not None)
                    if wanted is not None:
                        self.assertIsNotNone(texts_in(template, word + wanted))
                    counts[wanted is not None] += 1
                    strays = [many for many in range(len(word) + 1) if not course.goes_on(word[:many])]
                    self.assertEqual(strays_at(template, word), strays[0] if strays else None)
                    counts["never"] += strays[:1] == [0]
        self.assertGreater(min(counts.values()), 1000, counts)

    def test_longer_words(self):
        rng, found = random.Random(433), 0
        for spec, pair in random_pairs(434, 150, most_states=4):
            for template, course in pair:
                word = "".join(rng.choice("pqr") for _ in range(rng.randint(5, 14)))
                node = course.behind_word(word)
                self.assertEqual(stands_behind(template, word), [] if node is None else sorted(node[1]))
                wanted = course.least_rest(node)
                self.assertEqual(least_continuation(template, word), wanted)
                strays = strays_at(template, word)
                self.assertEqual(strays is None, wanted is not None)
                if strays is not None:
                    self.assertIs(goes_on(template, word[:strays]), False)
                    self.assertTrue(strays == 0 or goes_on(template, word[:strays - 1]))
                found += strays is None or strays > 3
        self.assertGreater(found, 10)


class ExamplesTest(Case):
    def test_first_stands(self):
        maybe, sure = Language.of("ab", "", "a"), Language.of("ab", "a")
        for parts, wanted in [([GO], [(0, 0)]), ([NOTHING], [(0, 0), (1, 0)]), ([EMPTY, NOTHING, GO, NOTHING], [(0, 0), (1, 0), (2, 0)]),
                              ([EMPTY], [(0, 0), (1, 0)]), ([("slot", "x", maybe)], [(0, 0), (1, 0)]), ([("slot", "x", sure), GO], [(0, 0)]),
                              ([("piece", (("p", None),)), NOTHING], [(0, 0)]),
                              ([EMPTY, ("slot", "x", maybe), NOTHING, EMPTY], [(0, 0), (1, 0), (2, 0), (3, 0), (4, 0)])]:
            self.assertEqual(first_stands(Template(READER, parts)), wanted)
            self.assertEqual(stands_behind(Template(READER, parts), ""), wanted)
        self.assertEqual(first_stands(template=Template(READER, [GO])), [(0, 0)])

    def test_stands_behind_words(self):
        template = Template(READER, [("slot", "x", Language.of("ab", "", "a", "ab")), NOTHING, ("piece", (("q", "go"), ("r", None))), ("slot", "y", EVERY)])
        wanted = {"": [(0, 0), (1, 0), (2, 0)], "r": [(0, 0), (1, 0), (2, 0)], "p": [(0, 1), (1, 0), (2, 0)], "ps": [(0, 3), (1, 0), (2, 0)],
                  "pp": [], "q": [(2, 1)], "qr": [(2, 2), (3, 0), (4, 0)], "qrs": [(3, 0), (4, 0)], "qp": [], "qrst": [], "z": [], "qrz": [], "psz": []}
        for word, stands in wanted.items():
            self.assertEqual(stands_behind(template, word), stands, word)
            self.assertEqual(stands_behind(word=word, template=template), stands)

    def test_states_of_languages_that_are_not_live(self):
        # Behind b no text goes on, and a sign that the language does not have leads nowhere either.
        template = Template(READER, [("slot", "x", Language.of("ab", "a", "aa"))])
        self.assertEqual(stands_behind(template, "p"), [(0, 1), (1, 0)])
        self.assertEqual([stands_behind(template, word) for word in ["s", "ps", "ppp"]], [[], [], []])
        self.assertEqual(stands_behind(Template(READER, [("slot", "x", Language.every("a"))]), "s"), [])

    def test_a_template_that_no_page_fills(self):
        template = Template(READER, [GO, ("said", ("other",))])
        self.assertEqual(stands_behind(template, "q"), [(0, 1), (1, 0)])
        for word in ["", "q", "qr", "z"]:
            self.assertIs(goes_on(template, word), False)
            self.assertIsNone(least_continuation(template, word))
            self.assertEqual(strays_at(template, word), 0)

    def test_words(self):
        template = Template(READER, [GO, ("slot", "x", Language.of("ab", "ab"))])
        for word, rest, strays in [("", None, 0), ("q", None, 0)]:
            # From the state behind s no end is reached without a mark, which must not be told any more.
            self.assertEqual((least_continuation(template, word), strays_at(template, word)), (rest, strays))
        template = Template(READER, [GO, ("slot", "x", Language.of("ab", "ab")), ("said", ("stop",))])
        for word, rest, strays in [("", "qpst", None), ("q", "pst", None), ("rqr", "pst", None), ("qps", "t", None), ("qpst", "", None),
                                   ("qpstr", "", None), ("qpp", None, 3), ("qpstq", None, 5), ("p", None, 1), ("z", None, 1),
                                   ("qzqqq", None, 2)]:
            self.assertEqual((least_continuation(template, word), strays_at(template, word)), (rest, strays), word)
            self.assertIs(goes_on(template, word), rest is not None)
        self.assertIs(goes_on(word="q", template=template), True)
        self.assertEqual(least_continuation(word="q", template=template), "pst")
        self.assertEqual(strays_at(word="qpp", template=template), 3)

    def test_a_long_continuation(self):
        # Only a word that turns both circles fills the template.
        reader = Reader([{"p": ((state + 1) % 11, "a")} for state in range(11)], [0])
        language = Language("a", [{"a": (state + 1) % 6} for state in range(6)], [0])
        template = Template(reader, [("slot", "x", language)])
        self.assertEqual(least_continuation(template, "p"), "p" * 65)
        self.assertEqual(least_continuation(template, "p" * 67), "p" * 65)
        self.assertEqual(least_continuation(template, ""), "")


class ErrorsTest(Case):
    def test_words(self):
        for template in [Template(READER, [GO]), Template(READER, [("said", ("other",))])]:
            for call in (stands_behind, goes_on, least_continuation, strays_at):
                for value in NOT_WORDS:
                    self.fails(InvalidWord, value, lambda: call(template, value))
                    self.fails(InvalidWord, value, lambda: call(word=value, template=template))


class RepeatedTest(unittest.TestCase):
    def test_repeated_queries_and_new_results(self):
        for spec, pair in random_pairs(435, 40):
            for template, _ in pair:
                before = repr((template.reader, template.parts()))
                for word in ["", "p", "qr"]:
                    found, firsts = stands_behind(template, word), first_stands(template)
                    copies = list(found), list(firsts)
                    found.append(5)
                    firsts.clear()
                    self.assertEqual((stands_behind(template, word), first_stands(template)), copies)
                    self.assertEqual(least_continuation(template, word), least_continuation(template, word))
                self.assertEqual(repr((template.reader, template.parts())), before)


if __name__ == "__main__":
    unittest.main()
