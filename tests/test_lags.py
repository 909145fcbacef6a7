"""[25] Lags of given writers: compared with slow walks."""

import random
import unittest

from sealedslots.doors import Door
from sealedslots.errors import Unfaithful
from sealedslots.given import GivenWriter, find_failing
from sealedslots.lags import greatest_lag, is_lags, lags
from sealedslots.languages import Language
from sealedslots.readers import Reader
from tests.cases import Case
from tests.given_samples import given_doors, made_given
from tests.samples import OTHER_VALUES
from tests.slow_given import Walk, slow_failure

READER = Reader([{"p": (0, "a"), "q": (0, "b"), "r": (0, None), "s": (0, "go")}])
AGAIN = Language("ab", [{"a": 1, "b": 2}, {"a": 2, "b": 0}, {"a": 2, "b": 2}], [0])
DOOR = Door(READER, 0, [0], AGAIN)
LATE = GivenWriter("", {(0, "a"): (1, ""), (1, "b"): (2, "p"), (2, "a"): (1, "q")}, {0: "", 2: "q"}, states=3)
EARLY = GivenWriter("", {(0, "a"): (1, "pq"), (1, "b"): (0, "")}, {0: ""}, states=2)


class LagsTest(Case):
    def test_late_early_and_both(self):
        self.assertEqual(lags(DOOR, LATE), {(0, 0, 0): ("", ""), (0, 2, 0): ("b", ""), (1, 1, 0): ("a", "")})
        self.assertEqual(greatest_lag(DOOR, LATE), (1, 0))
        self.assertEqual(lags(DOOR, EARLY), {(0, 0, 0): ("", ""), (1, 1, 0): ("", "b")})
        self.assertEqual(greatest_lag(door=DOOR, writer=EARLY), (0, 1))
        both = GivenWriter("", {(0, "a"): (1, ""), (1, "b"): (2, "pq"), (2, "a"): (3, "pq"), (3, "b"): (0, "")}, {0: "", 2: ""}, states=4)
        self.assertEqual(lags(door=DOOR, writer=both),
                         {(0, 0, 0): ("", ""), (0, 2, 0): ("", ""), (1, 1, 0): ("a", ""), (1, 3, 0): ("", "b")})
        self.assertEqual(greatest_lag(DOOR, both), (1, 1))
        twice = Language("ab", [{"a": 1, "b": 5}, {"a": 5, "b": 2}, {"a": 3, "b": 5}, {"a": 5, "b": 4}, {"a": 5, "b": 5},
                                {"a": 5, "b": 5}], [4])
        door = Door(READER, 0, [0], twice)
        moves = {(state, sign): (state + 1, "") for state, sign in enumerate("abab")}
        self.assertEqual(greatest_lag(door, GivenWriter("pqpq", moves, {4: ""}, states=5)), (0, 4))
        self.assertEqual(greatest_lag(door, GivenWriter("", moves, {4: "pqpq"}, states=5)), (4, 0))
        self.assertEqual(lags(door, GivenWriter("pq", moves, {4: "pq"}, states=5)),
                         {(0, 0, 0): ("", "ab"), (1, 1, 0): ("", "b"), (3, 2, 0): ("", ""), (4, 3, 0): ("a", ""), (5, 4, 0): ("ab", "")})

    def test_sorted_keys(self):
        states = [{"p": (1, "a"), "q": (2, "a")}, {"p": (2, "a")}, {"p": (0, "a")}]
        writer = GivenWriter("", {(0, "a"): (2, "p"), (2, "a"): (1, "p"), (1, "a"): (0, "p")}, {0: "", 1: "", 2: ""}, states=3)
        found = lags(Door(Reader(states), 2, [0, 1, 2], Language.every("a")), writer)
        self.assertEqual(list(found), [(0, 0, 2), (0, 1, 1), (0, 2, 0)])

    def test_writers_without_a_bound(self):
        language = Language("ab", [{"a": 0, "b": 1}, {"a": 2, "b": 2}, {"a": 2, "b": 2}], [1])
        door = Door(READER, 0, [0], language)
        for writer in [GivenWriter("", {(0, "a"): (0, ""), (0, "b"): (0, "")}, {0: "q"}), GivenWriter.table({"a": "pp", "b": "q"}),
                       GivenWriter("p", {(0, "a"): (0, "pp"), (0, "b"): (0, "q")}, {0: ""})]:
            self.assertIsNone(lags(door, writer))
            self.assertIs(is_lags(door, writer, {(0, 0, 0): ("", ""), (1, 0, 0): ("b", "")}), False)
            with self.assertRaises(Unfaithful):
                greatest_lag(door, writer)

    def test_languages_without_texts(self):
        door = Door(READER, 0, [], Language.of("ab"))
        for writer in [LATE, GivenWriter("s", {}, {})]:
            self.assertEqual((lags(door, writer), greatest_lag(door, writer)), ({}, (0, 0)))
            self.assertIs(is_lags(door, writer, {}), True)
            for value in [{(0, 0, 0): ("", "")}, {0: 0}, [], None, ()]:
                self.assertIs(is_lags(door, writer, value), False)

    def test_slow_walks(self):
        counts = {True: 0, False: 0}
        greatest = {}
        for spec in given_doors(201, 1200):
            states, state, behind, machine, given = spec
            door, writer = made_given(*spec)
            wanted = Walk(states, state, behind, given, machine).lags
            found = lags(door, writer)
            counts[wanted is not None] += 1
            if wanted is None:
                self.assertIsNone(found)
                failing = find_failing(door, writer)
                with self.assertRaises(Unfaithful) as caught:
                    greatest_lag(door, writer)
                self.assertEqual(caught.exception.word, failing)
                self.assertEqual(caught.exception.problem, slow_failure(states, state, behind, given, failing))
                continue
            self.assertEqual(found, wanted)
            self.assertEqual(list(found), sorted(found))
            self.assertIs(is_lags(door, writer, found), True)
            lag = tuple(max([len(lag[side]) for lag in wanted.values()], default=0) for side in (0, 1))
            self.assertEqual(greatest_lag(door, writer), lag)
            greatest[lag] = greatest.get(lag, 0) + 1
            found[(0, 0, 0)] = None
            self.assertEqual(lags(door, writer), wanted)
        self.assertGreater(min(counts.values()), 200)
        self.assertGreater(min(greatest[lag] for lag in [(0, 0), (1, 0), (0, 1)]), 5, greatest)


class IsLagsTest(Case):
    def setUp(self):
        self.lags = {(0, 0, 0): ("", ""), (0, 2, 0): ("b", ""), (1, 1, 0): ("a", "")}

    def accepted(self, value, door=DOOR, writer=LATE):
        self.assertIs(is_lags(door, writer, value), True, repr(value)[:200])

    def refused(self, value, door=DOOR, writer=LATE):
        self.assertIs(is_lags(door, writer, value), False, repr(value)[:200])

    def test_accepted(self):
        self.accepted(self.lags)
        self.accepted(dict(reversed(self.lags.items())))
        self.assertIs(is_lags(value=self.lags, writer=LATE, door=DOOR), True)
        # Further triples may be there if they go on as well: here one that no text leads to.
        reader = Reader([{"p": (0, "a"), "q": (0, "b")}, {"p": (1, "a"), "q": (1, "b")}])
        wide = Door(reader, 0, [0, 1], AGAIN)
        more = {**self.lags, (0, 0, 1): ("", ""), (0, 2, 1): ("b", ""), (1, 1, 1): ("a", "")}
        self.accepted(self.lags, wide)
        self.accepted(more, wide)
        del more[(1, 1, 1)]
        self.refused(more, wide)

    def test_each_property_alone(self):
        # A key left out, or another lag.
        for triple in self.lags:
            self.refused({key: lag for key, lag in self.lags.items() if key != triple})
            for lag in [("", ""), ("a", ""), ("b", ""), ("", "a"), ("", "b"), ("ab", ""), ("", "ab"), ("a", "b"), ("b", "b")]:
                if lag != self.lags[triple]:
                    self.refused({**self.lags, triple: lag})
        self.refused({})
        # A state that is not live, and further triples that do not go on.
        self.refused({**self.lags, (2, 0, 0): ("", "")})
        self.refused({**self.lags, (1, 0, 0): ("", "")})
        self.refused({**self.lags, (0, 1, 0): ("", "")})
        # Something ahead at a member state; no ending, or one that tells something else or leads elsewhere.
        moves = {(0, "a"): (1, ""), (1, "b"): (2, "p"), (2, "a"): (1, "q")}
        for endings in [{0: ""}, {0: "", 2: "p"}, {0: "", 2: ""}, {0: "", 2: "qq"}, {0: "", 2: "qs"}, {0: "", 2: "z"}, {0: "", 2: "sq"},
                        {0: "r", 2: "p"}, {2: "q"}]:
            self.refused(self.lags, DOOR, GivenWriter("", moves, endings, states=3))
        self.accepted(self.lags, DOOR, GivenWriter("", moves, {0: "rr", 2: "rqr"}, states=3))
        self.refused(self.lags, Door(READER, 0, [], AGAIN))
        ahead = GivenWriter("pq", {(0, "a"): (1, "pq"), (1, "b"): (0, "")}, {0: ""}, states=2)
        self.refused({(0, 0, 0): ("", "ab"), (1, 1, 0): ("", "bab")}, DOOR, ahead)
        self.assertIsNone(lags(DOOR, ahead))
        # No move, and a word that does not pass, tells a mark or something else.
        for word in ["z", "s", "ps", "q", "pp", ""]:
            self.refused(self.lags, DOOR, GivenWriter("", {**moves, (1, "b"): (2, word)}, {0: "", 2: "q"}, states=3))
        self.refused(self.lags, DOOR, GivenWriter("", {key: moves[key] for key in list(moves)[:2]}, {0: "", 2: "q"}, states=3))
        # An opening that does not pass, tells a mark or a sign; a silent one does as well.
        for opening in ["z", "s", "p"]:
            self.refused(self.lags, DOOR, GivenWriter(opening, moves, {0: "", 2: "q"}, states=3))
        self.accepted(self.lags, DOOR, GivenWriter("rr", moves, {0: "", 2: "q"}, states=3))

    def test_one_word_is_empty(self):
        # Also at a triple that no text leads to, and from which all goes on: what is told already is not owed.
        reader = Reader([{"p": (0, "a"), "q": (0, "b")}, {"p": (1, "a"), "q": (1, "b")}])
        door = Door(reader, 0, [0, 1], Language.of("ab", "ab"))
        found = lags(door, LATE)
        self.assertEqual(found, {(0, 0, 0): ("", ""), (1, 1, 0): ("a", ""), (3, 2, 0): ("b", "")})
        self.accepted({**found, (1, 1, 1): ("a", ""), (3, 2, 1): ("b", "")}, door)
        for lag in [("aa", "a"), ("a", "b"), ("ba", "b")]:
            self.refused({**found, (1, 1, 1): lag, (3, 2, 1): ("b", "")}, door)

    def test_wrong_forms(self):
        for value in OTHER_VALUES + [list(self.lags.items()), list(self.lags), tuple(self.lags.items()), "", 0]:
            self.refused(value)
        good = ("", "")
        for key in [0, "", None, True, (), (0, 0), (0, 0, 0, 0), (False, 0, 0), (0, False, 0), (0, 0, False), (True, 1, 0), (-1, 0, 0),
                    (3, 0, 0), (0, 3, 0), (0, 0, 1), ("0", 0, 0), (0, "0", 0), (0, 0, "0"), (None, 0, 0), (0, None, 0), (0, 0, None),
                    ((0,), 0, 0), len, b"a"]:
            self.refused({key: good})
            if key not in self.lags:
                self.refused({**self.lags, key: good})
                self.refused({key: good, **self.lags})
        for lag in OTHER_VALUES + ["", "a", ["a", ""], ("a",), ("a", "", ""), ("A", ""), ("", "1"), (None, ""), ("", None), (True, ""),
                                   (["a"], ""), ("", ("a",)), (b"a", ""), ({}, ""), ("a", "a"), ("a b", "")]:
            for triple in self.lags:
                self.refused({**self.lags, triple: lag})

    def test_values_of_the_right_form(self):
        rng = random.Random(202)
        counts = {True: 0, False: 0}
        for spec in given_doors(203, 1200):
            states, state, behind, machine, given = spec
            door, writer = made_given(*spec)
            walk = Walk(states, state, behind, given, machine)
            value = dict(walk.lags or {(0, 0, state): ("", "")})
            for _ in range(rng.choice([0, 0, 1, 2])):
                key = (rng.randrange(len(door.language)), rng.randrange(len(writer)), rng.randrange(len(states)))
                value[key] = rng.choice([("", ""), ("", ""), ("a", ""), ("b", ""), ("", "b"), ("", "a")])
            for key in list(value):
                if rng.random() < 0.03:
                    del value[key]
            wanted = walk.is_lags(value)
            self.assertIs(is_lags(door, writer, value), wanted, (spec, value))
            self.assertLessEqual(wanted, walk.lags is not None)
            counts[wanted] += 1
        self.assertGreater(min(counts.values()), 100)


if __name__ == "__main__":
    unittest.main()
