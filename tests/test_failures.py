"""[24] Why texts fail at a door, the least ones that do, and the states in which outputs end."""

import unittest

from sealedslots.doors import Door
from sealedslots.errors import InvalidWord, NotMember, Unfaithful
from sealedslots.given import GivenWriter, end_states, failure, find_failing, is_faithful
from sealedslots.languages import Language
from sealedslots.readers import Reader
from tests.cases import NOT_WORDS, Case
from tests.given_samples import given_doors, made_given
from tests.samples import accepts, walk, words
from tests.slow_given import Walk, first_failing, output_of, slow_failure

READER = Reader([{"p": (0, "a"), "q": (1, "b"), "r": (1, None), "s": (0, "go")}, {"p": (1, "a"), "q": (0, "b")}])
DOOR = Door(READER, 0, [0], Language.every("ab"))
MOST = 6


class FailureTest(Case):
    def test_each_kind(self):
        for writer, text, wanted in [
                (GivenWriter.table({"a": "p", "b": "q"}), "", None), (GivenWriter.table({"a": "p", "b": "q"}), "abba", None),
                (GivenWriter.table({"a": "p", "b": "q"}), "ab", ("state", 1)), (GivenWriter.table({"a": "p"}), "ab", ("output", 1)),
                (GivenWriter.table({"a": "p"}), "bab", ("output", 0)), (GivenWriter("", {}, {}), "", ("output", 0)),
                (GivenWriter("z", {(0, "a"): (0, "p")}, {}), "aa", ("output", 2)),
                (GivenWriter.table({"a": "p", "b": "qr"}), "ab", ("sign", 2)), (GivenWriter.raw("ab"), "a", ("sign", 0)),
                (GivenWriter("rr", {}, {0: ""}), "", ("sign", 1)), (GivenWriter.table({"a": "ps"}), "a", ("mark", 1)),
                (GivenWriter.table({"a": "ps", "b": "rs"}), "ab", ("mark", 1)), (GivenWriter.table({"a": "zs"}), "a", ("sign", 0)),
                (GivenWriter.table({"a": "sz"}), "a", ("mark", 0)), (GivenWriter.table({"a": "pp"}), "a", ("text", "aa")),
                (GivenWriter("p", {}, {0: "q"}), "", ("text", "ab")), (GivenWriter.table({"a": ""}), "aaa", ("text", "")),
                (GivenWriter.table({"a": "q", "b": "p"}), "ab", ("text", "ba")), (GivenWriter("r", {}, {0: ""}), "", ("state", 1))]:
            self.assertEqual(failure(DOOR, writer, text), wanted, text)
            self.assertEqual(failure(text=text, writer=writer, door=DOOR), wanted)

    def test_texts_of_other_kinds(self):
        door = Door(READER, 0, [0], Language.of("ab", "", "ab"))
        for text in ["a", "b", "c", "abz"]:
            for writer in [GivenWriter.table({"a": "p", "b": "q"}), GivenWriter("", {}, {})]:
                with self.assertRaises(NotMember) as caught:
                    failure(door, writer, text)
                self.assertEqual(caught.exception.word, text)
        for value in NOT_WORDS:
            self.fails(InvalidWord, value, lambda: failure(door, GivenWriter.raw("ab"), value))

    def test_slow_failures(self):
        kinds = {}
        for spec in given_doors(191, 150):
            door, writer = made_given(*spec)
            for text in words("ab", 4):
                if not accepts(spec[3], text):
                    self.assertRaises(NotMember, failure, door, writer, text)
                    continue
                wanted = slow_failure(spec[0], spec[1], spec[2], spec[4], text)
                self.assertEqual(failure(door, writer, text), wanted)
                kind = wanted and wanted[0]
                kinds[kind] = kinds.get(kind, 0) + 1
        self.assertGreater(min(kinds.get(kind, 0) for kind in [None, "output", "sign", "mark", "text", "state"]), 5, kinds)


class FindFailingTest(Case):
    def test_least_texts(self):
        counts = {"faithful": 0, "long": 0}
        for spec in given_doors(192, 2000):
            states, state, behind, machine, given = spec
            door, writer = made_given(*spec)
            found = find_failing(door, writer)
            wanted = first_failing(states, state, behind, given, machine, MOST)
            if wanted is not None or (found is not None and len(found) <= MOST):
                self.assertEqual(found, wanted)
                counts[len(wanted)] = counts.get(len(wanted), 0) + 1
            elif found is not None:
                self.assertIn(found, door.language)
                self.assertIsNotNone(slow_failure(states, state, behind, given, found))
                counts["long"] += 1
            else:
                counts["faithful"] += 1
            self.assertIs(is_faithful(door, writer), found is None)
            self.assertEqual(Walk(states, state, behind, given, machine).lags is None, found is not None)
            self.assertEqual(find_failing(writer=writer, door=door), found)
        self.assertGreater(min(counts["faithful"], counts[0], counts[1], counts[2], counts[3]), 20, counts)

    def test_long_least_texts(self):
        # The output leaves the ring of eleven states where the text would end with six times so many signs, and one.
        ring = Reader([{"p": ((state + 1) % 11, "a")} for state in range(11)])
        language = Language("a", [{"a": (at + 1) % 6} for at in range(6)], [3])
        door = Door(ring, 0, [state for state in range(11) if state != 10], language)
        self.assertEqual(find_failing(door, GivenWriter.table({"a": "p"})), "a" * 21)
        self.assertEqual(failure(door, GivenWriter.table({"a": "p"}), "a" * 21), ("state", 10))
        seven = GivenWriter("", {(at, "a"): ((at + 1) % 7, "p") for at in range(7)}, {at: "" for at in range(7) if at != 2}, states=7)
        every = Door(ring, 0, list(range(11)), language)
        self.assertEqual(find_failing(every, seven), "a" * 9)
        self.assertEqual(find_failing(door, seven), "a" * 9)
        other = GivenWriter("", {(at, "a"): ((at + 1) % 7, "p") for at in range(7)}, {at: "" for at in range(6)}, states=7)
        self.assertEqual(find_failing(every, other), "a" * 27)
        # Only what is told is wrong, and it shows late: the writer lags more and more, but every output is long enough.
        told = Reader([{"p": (0, "a"), "q": (0, "b"), "r": (0, None)}])
        late = GivenWriter("", {(0, "a"): (1, ""), (1, "a"): (1, "p"), (1, "b"): (1, "q")}, {1: "p", 0: ""}, states=2)
        self.assertEqual(find_failing(Door(told, 0, [0], Language.every("ab")), late), "b")
        self.assertEqual(find_failing(Door(told, 0, [0], Language.every("a")), late), None)
        self.assertEqual(find_failing(Door(told, 0, [0], Language("ab", [{"a": 1, "b": 2}, {"a": 1, "b": 1}, {"a": 2, "b": 2}], [1])),
                                      late), "ab")

    def test_writers_without_a_bound(self):
        told = Reader([{"p": (0, "a"), "q": (0, "b"), "r": (0, None)}])
        lag = Language("ab", [{"a": 0, "b": 1}, {"a": 2, "b": 2}, {"a": 2, "b": 2}], [1])
        # Nothing is written before the end, or twice as much as arrived.
        self.assertEqual(find_failing(Door(told, 0, [0], lag), GivenWriter("", {(0, "a"): (0, ""), (0, "b"): (0, "")}, {0: "q"})),
                         "ab")
        self.assertEqual(find_failing(Door(told, 0, [0], Language.every("a")), GivenWriter.table({"a": "pp"})), "a")
        self.assertEqual(find_failing(Door(told, 0, [0], Language.every("a")), GivenWriter.table({"a": ""})), "a")
        self.assertEqual(find_failing(Door(told, 0, [0], Language("a", [{"a": (at + 1) % 6} for at in range(6)], [0])),
                                      GivenWriter("", {(0, "a"): (0, "")}, {0: ""})), "aaaaaa")
        for word in ["", "pp", "ppp", "pppp"]:
            for at in range(6):
                language = Language("a", [{"a": (state + 1) % 6} for state in range(6)], [at])
                door = Door(told, 0, [0], language)
                found = find_failing(door, GivenWriter.table({"a": word}))
                self.assertEqual(found, "a" * (at or 6))

    def test_languages_without_texts(self):
        door = Door(READER, 0, [], Language.of("ab"))
        for writer in [GivenWriter("", {}, {}), GivenWriter("sss", {}, {}), GivenWriter.raw("ab")]:
            self.assertIsNone(find_failing(door, writer))
            self.assertIs(is_faithful(door, writer), True)
            self.assertEqual(end_states(door, writer), ())
        self.assertEqual(find_failing(Door(READER, 0, [], Language.of("ab", "")), GivenWriter.raw("ab")), "")
        self.assertIsNone(find_failing(Door(READER, 0, [0], Language.of("ab", "")), GivenWriter.raw("")))


    def test_marks_are_no_texts(self):
        # A mark is not told for two signs, even if its name consists of them.
        reader = Reader([{"p": (0, "g"), "q": (0, "o"), "s": (0, "go")}])
        door = Door(reader, 0, [0], Language.of("go", "go"))
        marks = GivenWriter.table({"g": "", "o": "s"})
        self.assertEqual((find_failing(door, marks), failure(door, marks, "go")), ("go", ("mark", 0)))
        self.assertIs(is_faithful(door, GivenWriter.table({"g": "p", "o": "q"})), True)
        for writer in [GivenWriter("s", {(0, "g"): (0, ""), (0, "o"): (0, "")}, {0: ""}),
                       GivenWriter("", {(0, "g"): (0, ""), (0, "o"): (0, "")}, {0: "s"})]:
            self.assertEqual((find_failing(door, writer), failure(door, writer, "go")), ("go", ("mark", 0)))


class EndStatesTest(Case):
    def test_slow_end_states(self):
        several, refused = 0, 0
        for spec in given_doors(193, 400):
            states, state, behind, machine, given = spec
            door, writer = made_given(*spec)
            failing = find_failing(door, writer)
            if failing is not None:
                with self.assertRaises(Unfaithful) as caught:
                    end_states(door, writer)
                wanted = (failing, slow_failure(states, state, behind, given, failing))
                self.assertEqual((caught.exception.word, caught.exception.problem), wanted)
                refused += 1
                continue
            wanted = set()
            for text in words("ab", MOST):
                if accepts(machine, text):
                    wanted.add(walk(states, state, output_of(given, text))[1])
            self.assertEqual(end_states(door, writer), tuple(sorted(wanted)))
            self.assertEqual(end_states(writer=writer, door=door), tuple(sorted(wanted)))
            several += len(wanted) > 1
        self.assertGreater(min(several, refused), 30)


if __name__ == "__main__":
    unittest.main()
