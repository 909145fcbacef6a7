"""[23], [26] Given writers: what they are made of, what they write, and what is none."""

import random
import unittest

from sealedslots.errors import InvalidState, InvalidWord, InvalidWriter
from sealedslots.given import GivenWriter
from tests.cases import NOT_WORDS, Case, no_states
from tests.given_samples import random_writer
from tests.samples import OTHER_VALUES, words
from tests.slow_given import output_of

MOVES, ENDINGS = {(0, "a"): (1, "pq"), (1, "a"): (0, ""), (1, "b"): (1, "r")}, {1: "s", 0: ""}


class GivenCase(Case):
    def refused(self, problem, place, call):
        with self.assertRaises(InvalidWriter) as caught:
            call()
        self.assertEqual((caught.exception.problem, caught.exception.place), (problem, place))


class MakingTest(GivenCase):
    def test_states(self):
        for many in range(1, 9):
            self.assertEqual(len(GivenWriter("", {(many - 1, "a"): (many - 1, "")}, {many - 1: ""}, states=many)), many)
        self.assertEqual(len(GivenWriter("", {}, {})), 1)
        for value in OTHER_VALUES + [0, 9, 10, "1", [1], (1,), 100]:
            self.refused("states", None, lambda: GivenWriter("", {}, {}, states=value))
            self.refused("states", None, lambda: GivenWriter(None, None, None, states=value))
        with self.assertRaises(TypeError):
            GivenWriter("", {}, {}, 2)

    def test_openings(self):
        for word in ["", "a", "zz", "x" * 24]:
            self.assertEqual(GivenWriter(word, {}, {}).opening, word)
        for value in NOT_WORDS + ["x" * 25, "a" * 60, "X"]:
            self.refused("opening", None, lambda: GivenWriter(value, {}, {}))
            self.refused("opening", None, lambda: GivenWriter(value, None, None))

    def test_moves_that_are_no_dict(self):
        for value in [value for value in OTHER_VALUES if not isinstance(value, dict)] + [0, "", [((0, "a"), (0, ""))]]:
            self.refused("moves", None, lambda: GivenWriter("", value, {}))
            self.refused("moves", None, lambda: GivenWriter("", value, None))

    def test_wrong_moves(self):
        good = (0, "")
        for key in [0, "", "a", None, True, (), (0,), (0, "a", 0), (0, ""), (0, "ab"), (0, "A"), (0, None), (0, 1), ("a", 0),
                    (2, "a"), (-1, "a"), (True, "a"), (False, "a"), (None, "a"), ("0", "a"), (0, b"a"), (0, ("a",)), ((0,), "a"), b"a", len, object()]:
            self.refused("move", key, lambda: GivenWriter("", {key: good}, {}, states=2))
            # (Here False would be the key of another entry.)
            first = (1 if key == (0, "a") else 0, "a")
            self.refused("move", key, lambda: GivenWriter("", {first: good, key: good, (9, "a"): good}, None, states=2))
        for move in OTHER_VALUES + [0, "", "p", [0, ""], (0,), (0, "", 0), (2, ""), (-1, ""), (True, ""), (False, ""), (None, ""),
                                    ("0", ""), (0, "abcde"), (0, "A"), (0, None), (0, ["a"]), (0, b""), (0, ("a",)), ([], ""),
                                    ({}, ""), ("", 0)]:
            self.refused("move", (1, "b"), lambda: GivenWriter("", {(1, "b"): move}, {}, states=2))
            self.refused("move", (1, "b"), lambda: GivenWriter("", {(0, "a"): good, (1, "b"): move, 5: 5}, None, states=2))
        self.assertEqual(GivenWriter("", {(1, "b"): (1, "abcd")}, {}, states=2).move(1, "b"), (1, "abcd"))

    def test_endings_that_are_no_dict(self):
        for value in [value for value in OTHER_VALUES if not isinstance(value, dict)] + [0, "", [(0, "")]]:
            self.refused("endings", None, lambda: GivenWriter("", {}, value))

    def test_wrong_endings(self):
        for key in ["", "0", None, True, False, -1, 2, (), (0,), b"a", len]:
            self.refused("ending", key, lambda: GivenWriter("", {}, {key: ""}, states=2))
            self.refused("ending", key, lambda: GivenWriter("", {}, {0 if key is not False else 1: "", key: "", 7: ""}, states=2))
        for word in NOT_WORDS + ["x" * 25, ["a"], 0]:
            self.refused("ending", 1, lambda: GivenWriter("", {}, {1: word}, states=2))
            self.refused("ending", 1, lambda: GivenWriter("", {}, {0: "", 1: word, 5: None}, states=2))
        self.assertEqual(GivenWriter("", {}, {1: "x" * 24}, states=2).ending(1), "x" * 24)

    def test_several_faults(self):
        wrong = {"opening": "P", "moves": {(0, "a"): (1, "")}, "endings": {1: ""}}
        self.refused("opening", None, lambda: GivenWriter(**wrong))
        self.refused("states", None, lambda: GivenWriter(states=True, **wrong))
        wrong["opening"] = "p"
        self.refused("move", (0, "a"), lambda: GivenWriter(**wrong))
        wrong["moves"] = {}
        self.refused("ending", 1, lambda: GivenWriter(**wrong))
        # The first entry of a dict decides, not the least one.
        self.refused("move", (1, "a"), lambda: GivenWriter("", {(1, "a"): (0, ""), (0, "a"): (1, ""), 0: 0}, {}))
        self.refused("ending", 3, lambda: GivenWriter("", {}, {0: "", 3: "", 2: None, 1: 0}))


class QueriesTest(GivenCase):
    def setUp(self):
        self.writer = GivenWriter("op", MOVES, ENDINGS, states=3)

    def test_entries(self):
        self.assertEqual((len(self.writer), self.writer.opening), (3, "op"))
        self.assertEqual([self.writer.move(state, sign) for state in range(3) for sign in "abz"],
                         [(1, "pq"), None, None, (0, ""), (1, "r"), None, None, None, None])
        self.assertEqual([self.writer.ending(state) for state in range(3)], ["", "s", None])
        self.assertEqual((self.writer.move(sign="a", state=0), self.writer.ending(state=1)), ((1, "pq"), "s"))
        for value in no_states(3):
            self.fails(InvalidState, value, lambda: self.writer.move(value, "a"))
            self.fails(InvalidState, value, lambda: self.writer.ending(value))

    def test_outputs(self):
        self.assertEqual([self.writer.output(text) for text in ["", "a", "ab", "abba", "aa"]],
                         ["op", "oppqs", "oppqrs", "oppqrr", "oppq"])
        self.assertEqual([self.writer.output(text=text) for text in ["b", "aab", "az", "z"]], [None] * 4)
        lacking = GivenWriter("", {(0, "a"): (1, "")}, {0: "x"}, states=2)
        self.assertEqual((lacking.output(""), lacking.output("a"), lacking.output("aa")), ("x", None, None))
        for value in NOT_WORDS:
            self.fails(InvalidWord, value, lambda: self.writer.output(value))

    def test_slow_outputs(self):
        rng = random.Random(181)
        for _ in range(60):
            spec = random_writer(rng)
            writer = GivenWriter(spec[0], spec[1], spec[2], states=spec[3])
            for text in words("ab", 4):
                wanted = output_of(spec, text)
                self.assertEqual(writer.output(text), None if isinstance(wanted, int) else wanted)

    def test_copies(self):
        moves, endings = dict(MOVES), dict(ENDINGS)
        writer = GivenWriter("op", moves, endings, states=3)
        moves[(0, "a")] = (0, "zzz")
        moves[5] = 5
        endings.clear()
        self.assertEqual(writer, self.writer)
        self.assertEqual(writer.output("a"), "oppqs")


class ClassMethodsTest(GivenCase):
    def test_raw(self):
        for signs in ["", "a", "ab", "ba", "abab", "z", "qwertyuiopasdfghjklzxcvbnm"]:
            writer = GivenWriter.raw(signs)
            self.assertEqual(writer, GivenWriter("", {(0, sign): (0, sign) for sign in signs}, {0: ""}))
            self.assertEqual((len(writer), writer.output(""), writer.output(signs)), (1, "", signs))
        self.assertIsNone(GivenWriter.raw(signs="ab").output("abc"))
        for value in NOT_WORDS:
            self.fails(InvalidWord, value, lambda: GivenWriter.raw(value))

    def test_table(self):
        writer = GivenWriter.table({"b": "pq", "a": ""})
        self.assertEqual(writer, GivenWriter("", {(0, "a"): (0, ""), (0, "b"): (0, "pq")}, {0: ""}))
        self.assertEqual(GivenWriter.table(entries={}), GivenWriter("", {}, {0: ""}))
        for value in [value for value in OTHER_VALUES if not isinstance(value, dict)] + [0, "", [("a", "")]]:
            self.refused("moves", None, lambda: GivenWriter.table(value))
        for key in ["", "ab", "A", None, 0, True, ("a",), (0, "a"), b"a"]:
            self.refused("move", (0, key), lambda: GivenWriter.table({key: ""}))
            self.refused("move", (0, key), lambda: GivenWriter.table({"a": "", key: "", "": ""}))
        for word in NOT_WORDS + ["abcde", (0, ""), 0]:
            self.refused("move", (0, "b"), lambda: GivenWriter.table({"b": word}))
            self.refused("move", (0, "b"), lambda: GivenWriter.table({"a": "abcd", "b": word, 1: 1}))
        entries = {"a": "p"}
        writer = GivenWriter.table(entries)
        entries["a"] = "q"
        self.assertEqual(writer.output("a"), "p")

    def test_quoted(self):
        writer = GivenWriter("op", MOVES, ENDINGS, states=3)
        found = writer.quoted("x", "yz")
        self.assertEqual(found, GivenWriter("xop", MOVES, {0: "yz", 1: "syz"}, states=3))
        self.assertEqual((found.output("a"), found.output("b"), found.ending(2)), ("xoppqsyz", None, None))
        self.assertEqual(writer, GivenWriter("op", MOVES, ENDINGS, states=3))
        self.assertEqual(writer.quoted(y="", x=""), writer)
        self.assertEqual(writer.quoted("x" * 22, "y" * 23).ending(1), "s" + "y" * 23)
        for value in NOT_WORDS:
            self.fails(InvalidWord, value, lambda: writer.quoted(value, "y"))
            self.fails(InvalidWord, value, lambda: writer.quoted(value, None))
            self.fails(InvalidWord, value, lambda: writer.quoted("x", value))
            self.fails(InvalidWord, value, lambda: writer.quoted("x" * 60, value))
        self.refused("opening", None, lambda: writer.quoted("x" * 23, ""))
        self.refused("opening", None, lambda: writer.quoted("x" * 23, "y" * 30))
        self.refused("ending", 1, lambda: writer.quoted("x" * 22, "y" * 24))
        self.refused("ending", 1, lambda: writer.quoted("", "y" * 25))
        self.assertEqual(writer.quoted("", "").output("a"), "oppqs")


class EqualityTest(unittest.TestCase):
    def test_equality(self):
        writer = GivenWriter("op", MOVES, ENDINGS, states=3)
        turned = GivenWriter("op", dict(reversed(MOVES.items())), dict(reversed(ENDINGS.items())), states=3)
        self.assertTrue(writer == turned)
        self.assertFalse(writer != turned)
        for other in [GivenWriter("o", MOVES, ENDINGS, states=3), GivenWriter("op", MOVES, ENDINGS, states=4),
                      GivenWriter("op", {**MOVES, (2, "a"): (0, "")}, ENDINGS, states=3),
                      GivenWriter("op", {**MOVES, (0, "a"): (1, "p")}, ENDINGS, states=3),
                      GivenWriter("op", {}, ENDINGS, states=3), GivenWriter("op", MOVES, {**ENDINGS, 2: ""}, states=3),
                      GivenWriter("op", MOVES, {}, states=3), GivenWriter("op", MOVES, {**ENDINGS, 0: "s"}, states=3)]:
            self.assertFalse(writer == other)
            self.assertTrue(writer != other)
        for value in OTHER_VALUES:
            self.assertFalse(writer == value)


if __name__ == "__main__":
    unittest.main()
