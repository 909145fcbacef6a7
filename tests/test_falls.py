"""[20] Falls of doors that are not written with a look-ahead: compared with slow turns."""

import random
import unittest

from sealedslots.doors import Door
from sealedslots.errors import InvalidLookAhead
from sealedslots.games import fall, is_fall, is_written_with
from sealedslots.languages import Language
from sealedslots.readers import Reader
from tests.cases import Case, no_look_aheads
from tests.door_samples import FOURTH, LACKING, NONE, door_of, guessing_doors, small_doors
from tests.samples import OTHER_VALUES, words
from tests.slow_games import Game


def some_doors(seed, count):
    for door in small_doors(seed, count, told=(None, "a", "a", "b", "b"), density=0.8, page_signs="pqrs", most_states=4):
        yield door
    for door in guessing_doors(seed, 20 * count):
        yield door


class FallTest(Case):
    def test_examples(self):
        reader = Reader([{"x": (0, "a"), "y": (1, "a")}, {}], [1])
        door = Door(reader, 0, [1], Language("a", [{"a": 1}, {"a": 1}], [1]))
        self.assertEqual(fall(door, 0), [(0, "", 0, 2, "a"), (1, "", 0, 1, None), (1, "", 1, 1, "a")])
        self.assertEqual(fall(look_ahead=0, door=door), fall(door, 0))
        self.assertIsNone(fall(door, 1))
        self.assertIs(is_fall(door, 0, fall(door, 0)), True)
        self.assertIsNone(fall(FOURTH, 3))
        self.assertEqual(fall(LACKING, 1), [(0, "", 1, 3, "a"), (1, "a", 1, 2, "b"), (3, "b", 1, 1, None)])

    def test_none_ahead_of_signs(self):
        # Where both (a) is wrong and a sign is, the reason is None; of several signs it is the first.
        reader = Reader([{"p": (1, "a"), "q": (1, "b")}, {}])
        self.assertEqual(fall(Door(reader, 0, [], Language.every("ab")), 0), [(0, "", 0, 1, None), (0, "", 1, 1, None)])
        self.assertEqual(fall(Door(reader, 0, [1], Language.of("ab", "aa", "bb", "ab", "ba")), 0),
                         [(0, "", 0, 2, "a"), (1, "", 1, 1, "a")])
        self.assertEqual(fall(Door(reader, 0, [1], Language.of("ab", "a", "bb")), 0), [(0, "", 0, 2, "b"), (2, "", 1, 1, "b")])

    def test_slow_turns(self):
        turns, written = 0, 0
        for spec, state, behind, machine in some_doors(141, 60):
            door = door_of(spec, state, behind, machine)
            for look_ahead in range(4):
                game = Game(spec[0], state, behind, machine, look_ahead)
                found = fall(door, look_ahead)
                if game.is_written():
                    self.assertIsNone(found)
                    written += 1
                    continue
                self.assertEqual((type(found), found), (list, sorted(place + why for place, why in game.fallen.items())))
                for value in [found, found[::-1], found * 2]:
                    self.assertIs(is_fall(door, look_ahead, value), True)
                turns += max(fallen[3] for fallen in found) > 3
                found.pop()
                self.assertEqual(len(fall(door, look_ahead)), len(found) + 1)
        self.assertGreater(turns, 20)
        self.assertGreater(written, 100)

    def test_long_falls(self):
        # Each turn takes one state of a chain.
        states = [{"p": (state + 1, "a")} for state in range(11)] + [{}]
        door = Door(Reader(states), 0, list(range(12)), Language.every("a"))
        self.assertEqual(fall(door, 0), [(0, "", state, 12 - state, "a") for state in range(12)])
        self.assertEqual(fall(door, 1)[0], (0, "", 0, 13, "a"))


class IsFallTest(Case):
    def setUp(self):
        # From 0 the sign a leads to 1 and 2, from which b leads to 3; only from 2 it may be the last sign.
        self.reader = Reader([{"p": (1, "a"), "q": (2, "a")}, {"p": (3, "b")}, {"p": (3, "b"), "q": (2, None)}, {"p": (3, "a")}])
        self.door = Door(self.reader, 0, [2], Language.of("ab", "a", "ab"))
        self.fall = [(0, "", 0, 3, "a"), (1, "", 1, 1, None), (1, "", 2, 2, "b"), (3, "", 3, 1, None)]

    def accepted(self, value, look_ahead=0, door=None):
        self.assertIs(is_fall(door or self.door, look_ahead, value), True, repr(value)[:200])

    def refused(self, value, look_ahead=0, door=None):
        self.assertIs(is_fall(door or self.door, look_ahead, value), False, repr(value)[:200])

    def test_accepted(self):
        self.assertEqual(fall(self.door, 0), self.fall)
        self.accepted(self.fall)
        self.accepted(self.fall[::-1] + self.fall)
        self.assertIs(is_fall(value=self.fall, look_ahead=0, door=self.door), True)
        # Greater turns, also different ones for one place.
        self.accepted([(0, "", 0, 10 ** 29, "a"), (1, "", 1, 7, None), (1, "", 2, 9, "b"), (3, "", 3, 8, None)])
        self.accepted(self.fall + [(0, "", 0, 99, "a"), (1, "", 1, 50, None), (3, "", 3, 2, None)])
        # Places that are not met, and reasons that are not the first ones.
        self.accepted(self.fall + [(3, "", 0, 1, None), (3, "", 1, 1, None), (1, "", 3, 1, "b")])
        self.accepted(self.fall + [(1, "", 1, 2, "b")])
        self.accepted([fallen for fallen in self.fall if fallen[:3] != (1, "", 1)] + [(1, "", 1, 2, "b")])
        # Fewer tuples do as well.
        many = fall(Door(self.reader, 0, [], Language.of("ab", "", "a", "ab")), 0)
        self.accepted(many[:1], 0, Door(self.reader, 0, [], Language.of("ab", "", "a", "ab")))
        # With a sign held.
        held = fall(self.door, 1)
        self.accepted(held, 1)
        self.accepted(held + [(0, "b", 3, 1, "a"), (1, "", 3, 5, None)], 1)

    def test_each_property_alone(self):
        self.refused([])
        self.refused(self.fall[1:])
        self.refused([(0, "", 1, 3, "a")] + self.fall[1:])
        # Turns.
        for turn in OTHER_VALUES + [0, -5, "3", [3], (3,), 2, 1]:
            if turn != 10 ** 29:
                self.refused([(0, "", 0, turn, "a")] + self.fall[1:])
        for turn in [0, -1, True, False, None, "1"]:
            self.refused([self.fall[0], (1, "", 1, turn, None)] + self.fall[2:])
        self.refused([self.fall[0], self.fall[1], (1, "", 2, 3, "b"), self.fall[3]])
        self.refused([self.fall[0], self.fall[1], self.fall[2], (3, "", 3, 2, None)])
        self.refused(self.fall[:1] + self.fall[2:])
        self.refused(self.fall[:3])
        # Reasons.
        for reason in OTHER_VALUES + ["b", "", "ab", "c", 0, ["a"], ("a",)]:
            self.refused([(0, "", 0, 3, reason)] + self.fall[1:])
        self.refused(self.fall + [(1, "", 0, 1, "a")])
        self.refused(self.fall + [(2, "", 3, 1, "a")])
        self.refused(self.fall + [(3, "", 3, 1, "b")])
        # None where the state is no member, or the held text is writable.
        self.refused(self.fall + [(0, "", 1, 1, None)])
        self.refused(self.fall + [(2, "", 1, 1, None)])
        self.refused(self.fall + [(1, "", 2, 1, None)])
        self.refused(self.fall + [(3, "", 2, 1, None)])
        self.refused(self.fall + [(1, "a", 0, 1, None)], 1)

    def test_held_texts(self):
        for held in OTHER_VALUES + ["c", "z", 0, ["a"], ("a",), "ab", "aa"]:
            if held != "":
                self.refused(self.fall + [(1, held, 1, 1, None)])
        found = fall(self.door, 1)
        self.accepted(found + [(1, "b", 1, 1, None)], 1)
        for held in ["bb", "ab", "c", "bc", None]:
            self.refused(found + [(1, held, 1, 1, None)], 1)

    def test_languages_without_texts(self):
        door = Door(self.reader, 0, [], Language(*NONE))
        for value in [[], [(0, "", 0, 1, None)], [(0, "", 0, 1, "a")], [(0, "", 0, 1, "b")]]:
            self.refused(value, 0, door)

    def test_wrong_forms(self):
        for value in OTHER_VALUES + [tuple(self.fall), {place[:3]: place[3:] for place in self.fall}, set(self.fall), "", 0,
                                     iter(self.fall), [list(fallen) for fallen in self.fall]]:
            self.refused(value)
        for fallen in OTHER_VALUES + [
                [0, "", 0, 3, "a"], (0, "", 0, 3), (0, "", 0, 3, "a", 0), (4, "", 0, 3, "a"), (-1, "", 0, 3, "a"),
                (False, "", 0, 3, "a"), (True, "", 1, 1, None), (1, "", True, 1, None), (0, "", False, 3, "a"), (0, "", 4, 3, "a"),
                (0, "", -1, 3, "a"), ("0", "", 0, 3, "a"), (0, "", "0", 3, "a"), (None, "", 0, 3, "a"), (0, "", None, 3, "a"),
                ([], "", 0, 3, "a"), (0, "", {}, 3, "a"), (0, "", 0, {}, "a"), (0, "", 0, 3, {}), (0, [], 0, 3, "a")]:
            self.refused([fallen])
            self.refused(self.fall + [fallen])
            self.refused([fallen] + self.fall)

    def test_wrong_look_aheads(self):
        for value in no_look_aheads(3):
            for certificate in [self.fall, None, []]:
                self.fails(InvalidLookAhead, value, lambda: is_fall(self.door, value, certificate))

    def test_values_of_the_right_form(self):
        rng = random.Random(142)
        counts = {True: 0, False: 0}
        for spec, state, behind, machine in some_doors(143, 60):
            door = door_of(spec, state, behind, machine)
            for look_ahead in range(3):
                game = Game(spec[0], state, behind, machine, look_ahead)
                value = [fallen for fallen in fall(door, look_ahead) or [] if rng.random() < 0.95]
                for _ in range(rng.choice([0, 0, 0, 1, 2])):
                    value.append((rng.randrange(len(door.language)), rng.choice(list(words("ab", look_ahead))),
                                  rng.randrange(len(spec[0])), rng.randint(1, 4), rng.choice([None, "a", "b"])))
                value = [(at, held, here, turn + rng.choice([0] * 20 + [1]), reason) for at, held, here, turn, reason in value]
                rng.shuffle(value)
                wanted = game.is_fall(value)
                self.assertIs(is_fall(door, look_ahead, value), wanted, (spec, state, behind, machine, look_ahead, value))
                if wanted:
                    self.assertIs(is_written_with(door, look_ahead), False)
                counts[wanted] += 1
        self.assertGreater(min(counts.values()), 100)

    def test_never_for_a_door_that_is_written(self):
        rng = random.Random(144)
        for value in [[(at, held, state, rng.randint(1, 9), rng.choice([None, "a", "b"])) for at in range(5) for state in range(8)
                       for held in words("ab", 3) if rng.random() < 0.9] for _ in range(100)]:
            self.refused(value, 3, FOURTH)


if __name__ == "__main__":
    unittest.main()
