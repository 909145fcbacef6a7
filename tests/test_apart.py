"""[41], [42] Templates that are apart: compared with all short pages, and with slow closures."""

import random
import unittest

from sealedslots.errors import ReadersDiffer
from sealedslots.filling import texts_in
from sealedslots.languages import Language
from sealedslots.readers import Reader
from sealedslots.several import apartness, common_page, decided_after, goes_on, is_apartness
from sealedslots.templates import Template
from tests.cases import Case
from tests.samples import OTHER_VALUES, words
from tests.several_samples import random_pairs
from tests.slow_several import apartness as slow_apartness
from tests.slow_several import common_page as slow_common_page
from tests.slow_several import decided_after as slow_decided_after
from tests.slow_several import is_apartness as slow_is_apartness
from tests.slow_several import is_common

GO, STOP, NOTHING = ("said", ("go",)), ("said", ("stop",)), ("said", ())
EVERY = Language.every("ab")
READER = Reader([{"p": (0, "a"), "q": (0, "go"), "r": (0, None), "s": (0, "b"), "t": (0, "stop")}], [0])


class SlowTest(Case):
    def test_common_pages(self):
        apart, common = 0, 0
        for spec, ((one, first), (other, second)) in random_pairs(441, 1500):
            wanted = slow_common_page(first, second)
            self.assertEqual(common_page(one, other), wanted)
            self.assertEqual(common_page(other, one), wanted)
            for page in words("pqr", 4):
                both = texts_in(one, page) is not None and texts_in(other, page) is not None
                if both:
                    self.assertLessEqual((len(wanted), wanted), (len(page), page))
                    break
            closure = slow_apartness(first, second)
            self.assertEqual(any(is_common(first, second, node) for node in closure), wanted is not None)
            found = apartness(one, other)
            if wanted is None:
                self.assertEqual((type(found), found), (list, sorted(closure)))
                self.assertIs(is_apartness(one, other, found), True)
                apart += 1
            else:
                self.assertIsNone(found)
                self.assertIs(is_apartness(one, other, sorted(closure)), False)
                common += 1
        self.assertGreater(min(apart, common), 80, (apart, common))

    def test_random_values(self):
        rng = random.Random(442)
        counts = {True: 0, False: 0}
        for spec, ((one, first), (other, second)) in random_pairs(443, 250):
            closure = sorted(slow_apartness(first, second))
            if len(closure) > 60:
                continue
            for _ in range(10):
                value = list(closure)
                for _ in range(rng.choice([1, 1, 2])):
                    change = rng.choice(["drop", "double", "shuffle", "add", "add"])
                    if change == "drop" and value:
                        value.pop(rng.randrange(len(value)))
                    elif change == "double" and value:
                        value.append(rng.choice(value))
                    elif change == "shuffle":
                        rng.shuffle(value)
                    elif change == "add":
                        value.append((rng.randrange(len(spec[0])), self.stand(rng, one), self.stand(rng, other)))
                wanted = slow_is_apartness(first, second, value)
                self.assertIs(is_apartness(one, other, value), wanted)
                counts[wanted] += 1
        self.assertGreater(min(counts.values()), 150, counts)

    def stand(self, rng, template):
        index = rng.randint(0, len(template))
        if index == len(template):
            return index, 0
        part = template.parts()[index]
        return index, rng.randrange(len(part[2])) if part[0] == "slot" else rng.randint(0, len(part[1]))

    def test_decided_after(self):
        counts = {"never": 0, "none": 0, "zero": 0, "more": 0}
        for spec, ((one, first), (other, second)) in random_pairs(444, 900):
            wanted = slow_decided_after(first, second)
            self.assertEqual(decided_after(one, other), wanted)
            self.assertEqual(decided_after(other, one), wanted)
            counts["none" if wanted is None else "never" if wanted < 0 else "zero" if wanted == 0 else "more"] += 1
            if wanted is not None and wanted < 3:
                both = [word for word in words("pqr", wanted + 2) if goes_on(one, word) and goes_on(other, word)]
                self.assertEqual(max([len(word) for word in both], default=-1), wanted)
        self.assertGreater(min(counts.values()), 15, counts)


class ExamplesTest(Case):
    ONE = Template(READER, [("slot", "x", EVERY), GO])
    OTHER = Template(READER, [("slot", "x", EVERY), STOP])

    def test_templates_that_are_apart(self):
        self.assertIsNone(common_page(self.ONE, self.OTHER))
        found = apartness(self.ONE, self.OTHER)
        self.assertEqual(found[0], (0, (0, 0), (0, 0)))
        # They go on with all texts, and so are never decided.
        self.assertIsNone(decided_after(self.ONE, self.OTHER))
        self.assertIs(is_apartness(value=found, other=self.OTHER, one=self.ONE), True)
        self.assertIs(is_apartness(self.ONE, self.OTHER, found * 2), True)
        self.assertIs(is_apartness(self.ONE, self.OTHER, found[::-1]), True)

    def test_a_long_common_page(self):
        reader = Reader([{"p": ((state + 1) % 11, "a")} for state in range(11)], [0])
        templates = [Template(reader, [("slot", "x", Language("a", [{"a": (state + 1) % many} for state in range(many)], [many - 1]))])
                     for many in (5, 6)]
        # The page turns the circle of eleven, and is one less than a multiple of five and of six.
        wanted = [many for many in range(400) if many % 11 == 0 and many % 5 == 4 and many % 6 == 5][0]
        self.assertEqual(wanted, 209)
        self.assertEqual(common_page(*templates), "p" * 209)
        self.assertEqual(common_page(other=templates[1], one=templates[0]), "p" * 209)
        self.assertIsNone(apartness(*templates))
        self.assertIsNone(decided_after(*templates))

    def test_decided_after(self):
        short, long = Language.of("ab", "a", "ab"), Language.of("ab", "a", "aba")
        one, other = Template(READER, [("slot", "x", short), GO]), Template(READER, [("slot", "x", long), STOP])
        silent = Reader([{"p": (0, "a"), "q": (0, "go"), "s": (0, "b"), "t": (0, "stop")}], [0])
        one, other = Template(silent, one.parts()), Template(silent, other.parts())
        self.assertEqual(decided_after(one, other), 2)
        self.assertEqual(decided_after(other=other, one=one), 2)
        # The same template goes on with all that it goes on with.
        self.assertEqual(decided_after(one, one), 3)
        self.assertEqual(decided_after(Template(silent, [GO]), Template(silent, [STOP])), 0)
        self.assertEqual(decided_after(Template(silent, [GO]), Template(silent, [("said", ("other",))])), -1)
        self.assertEqual(decided_after(Template(silent, [("said", ("other",))]), Template(silent, [("said", ("other",))])), -1)

    def test_templates_that_no_page_fills_are_apart(self):
        never = Template(READER, [("said", ("other",))])
        for other in [never, self.ONE, Template(READER, [NOTHING])]:
            self.assertIsNone(common_page(never, other))
            found = apartness(never, other)
            self.assertIn((0, (0, 0), (0, 0)), found)
            self.assertIs(is_apartness(never, other, found), True)
            self.assertEqual(decided_after(never, other), -1)

    def test_the_empty_page(self):
        one, other = Template(READER, [NOTHING]), Template(READER, [("slot", "x", EVERY)])
        self.assertEqual(common_page(one, other), "")
        self.assertIsNone(apartness(one, other))


class ValuesTest(Case):
    ONE = Template(READER, [("slot", "x", Language.of("ab", "a", "aa")), GO, ("piece", (("t", "stop"),))])
    OTHER = Template(READER, [("slot", "y", Language.of("ab", "a", "b")), GO, NOTHING])

    def test_each_tuple_is_needed(self):
        found = apartness(self.ONE, self.OTHER)
        self.assertGreater(len(found), 3)
        for left in range(len(found)):
            self.assertIs(is_apartness(self.ONE, self.OTHER, found[:left] + found[left + 1:]), False)

    def test_further_tuples(self):
        found = apartness(self.ONE, self.OTHER)
        self.assertNotIn((0, (2, 1), (1, 0)), found)
        # Stands that no word leads to: behind them nothing follows, or what is there already, or what is added, too.
        for more in [[(0, (2, 1), (1, 0))], [(0, (3, 0), (2, 0))], [(0, (3, 0), (1, 1)), (0, (3, 0), (3, 0))], [(0, (2, 0), (3, 0))] * 3]:
            wanted = not any(stand == (3, 0) and last == (3, 0) for _, stand, last in more)
            self.assertIs(is_apartness(self.ONE, self.OTHER, found + more), wanted, more)
        # A state of the language that is not live, from which silent moves lead to itself.
        dead = [at for at in range(4) if not Language.of("ab", "a", "aa").is_live(at)][0]
        self.assertIs(is_apartness(self.ONE, self.OTHER, found + [(0, (0, dead), (0, 0))]), True)
        # From the end of the one, marks lead nowhere; but silent moves of the other lead on from where it is not complete.
        self.assertIs(is_apartness(self.ONE, self.OTHER, found + [(0, (1, 0), (2, 0))]), False)

    def test_forms(self):
        found = apartness(self.ONE, self.OTHER)
        good = (0, (3, 0), (1, 0))
        self.assertIs(is_apartness(self.ONE, self.OTHER, found + [good]), True)
        bad = [(0, (4, 0), (1, 0)), (0, (3, 1), (1, 0)), (0, (-1, 0), (1, 0)), (0, (3, 0), (4, 0)), (0, (3, 0), (2, 1)), (0, (3, 0), (3, 1)), (1, (3, 0), (1, 0)),
               (-1, (3, 0), (1, 0)), (0, (0, 4), (1, 0)), (0, (1, 2), (1, 0)), (0, (2, 2), (1, 0)), (0, (3, 0), (0, 4)), (0, (3, 0), (1, 2)),
               (0, (3, 0)), (0, (3, 0), (1, 0), 0), [0, (3, 0), (1, 0)], (0, [3, 0], (1, 0)), (0, (3, 0), [1, 0]), (False, (3, 0), (1, 0)),
               (0, (3, False), (1, 0)), (0, (3, 0), (True, 0)), (0, (True, 0), (1, 0)), (0, (1, True), (1, 0)), (0, (3,), (1, 0)),
               (0, (3, 0, 0), (1, 0)), (None, (3, 0), (1, 0)), (0, None, (1, 0)), (0, (3, 0), None), (0, ("3", 0), (1, 0)), (0, 3, 0),
               (0, ([], 0), (1, 0)), (0, (3, []), (1, 0)), ([], (3, 0), (1, 0)), (0, ({}, 0), (1, 0))]
        for value in bad:
            self.assertIs(is_apartness(self.ONE, self.OTHER, found + [value]), False, value)
            self.assertIs(is_apartness(self.ONE, self.OTHER, [value] + found), False, value)
        for value in OTHER_VALUES:
            self.assertIs(is_apartness(self.ONE, self.OTHER, value), False)
            self.assertIs(is_apartness(self.ONE, self.OTHER, found + [value]), False)
        for value in [tuple(found), dict.fromkeys(found), set(found), [list(node) for node in found]]:
            self.assertIs(is_apartness(self.ONE, self.OTHER, value), False)


class ErrorsTest(Case):
    def test_readers_that_differ(self):
        one = Template(READER, [GO])
        for reader in [Reader([{"q": (0, "go")}], [0]), Reader([{"p": (0, "a"), "q": (0, "go"), "r": (0, None), "s": (0, "b"), "t": (0, "stop")}])]:
            other = Template(reader, [STOP])
            for call in (common_page, apartness, decided_after):
                for pair in [(one, other), (other, one)]:
                    with self.assertRaises(ReadersDiffer) as caught:
                        call(*pair)
                    self.assertEqual(caught.exception.place, 1)
            for value in OTHER_VALUES + [[(0, (0, 0), (0, 0))]]:
                self.assertIs(is_apartness(one, other, value), False)
        # Equal readers need not be the same.
        equal = Template(Reader([{"t": (0, "stop"), "s": (0, "b"), "r": (0, None), "q": (0, "go"), "p": (0, "a")}], (0,)), [STOP])
        self.assertIs(is_apartness(one, equal, apartness(one, equal)), True)


class RepeatedTest(unittest.TestCase):
    def test_repeated_queries_and_new_results(self):
        for spec, ((one, _), (other, _)) in random_pairs(445, 60):
            found = apartness(one, other)
            if found is not None:
                copy = list(found)
                found.append(5)
                self.assertEqual(apartness(one, other), copy)
            self.assertEqual((common_page(one, other), decided_after(one, other)), (common_page(one, other), decided_after(one, other)))


if __name__ == "__main__":
    unittest.main()
