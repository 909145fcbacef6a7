"""[17], [18] Places: what follows them, and which are met; compared with slow walks."""

import unittest

from sealedslots.doors import Door
from sealedslots.errors import InvalidLookAhead
from sealedslots.languages import Language
from sealedslots.places import WHOLE, following, met_places
from sealedslots.readers import Reader
from tests.cases import Case, no_look_aheads
from tests.door_samples import EMPTY, NONE, door_of, small_doors
from tests.slow_games import Game


class PlacesTest(Case):
    def setUp(self):
        self.reader = Reader([{"p": (1, "a"), "q": (0, "b")}, {"p": (2, "a"), "q": (0, None), "r": (2, "b")}, {"p": (2, "go")}])
        self.door = Door(self.reader, 0, [1], Language.every("ab"))

    def test_whole(self):
        self.assertEqual((type(WHOLE), WHOLE), (int, 4))

    def test_examples(self):
        self.assertEqual(following(self.door, 0, (0, "", 0), "a"), [(0, "", 0), (0, "", 1)])
        self.assertEqual(following(self.door, 0, (0, "", 1), "b"), [(0, "", 0), (0, "", 2)])
        self.assertEqual(following(self.door, 0, (0, "", 2), "a"), [])
        self.assertEqual(following(self.door, 1, (0, "", 2), "a"), [(0, "a", 2)])
        self.assertEqual(following(self.door, 1, (0, "a", 1), "b"), [(0, "b", 0), (0, "b", 1), (0, "b", 2)])
        self.assertEqual(following(self.door, 3, (0, "ab", 1), "b"), [(0, "abb", 1)])
        self.assertEqual(following(self.door, 3, (0, "bba", 1), "a"), [(0, "baa", 0), (0, "baa", 2)])
        self.assertEqual(following(door=self.door, look_ahead=2, place=(0, "", 0), sign="b"), [(0, "b", 0)])
        self.assertEqual(met_places(self.door, 0), [(0, "", 0), (0, "", 1), (0, "", 2)])
        self.assertEqual(met_places(look_ahead=1, door=Door(self.reader, 2, [], Language.every("ab"))),
                         [(0, "", 2), (0, "a", 2), (0, "b", 2)])

    def test_signs_that_lead_nowhere(self):
        door = Door(self.reader, 0, [1], Language.of("ab", "ab", "b"))
        self.assertEqual(following(door, 0, (0, "", 0), "a"), [(1, "", 0), (1, "", 1)])
        for look_ahead in range(4):
            self.assertEqual(following(door, look_ahead, (1, "", 0), "a"), [])
            self.assertEqual(following(door, look_ahead, (2, "", 0), "a"), [])
            for sign in "cz":
                self.assertEqual(following(door, look_ahead, (0, "", 0), sign), [])

    def test_special_languages(self):
        for look_ahead in range(4):
            self.assertEqual(met_places(Door(self.reader, 0, [0, 1, 2], Language(*NONE)), look_ahead), [])
            self.assertEqual(met_places(Door(self.reader, 1, [], Language(*EMPTY)), look_ahead), [(0, "", 1)])
            self.assertEqual(following(Door(self.reader, 1, [], Language(*EMPTY)), look_ahead, (0, "", 1), "a"), [])

    def test_slow_walks(self):
        many = 0
        for number, (spec, state, behind, machine) in enumerate(small_doors(121, 40, told=(None, "a", "a", "b", "b"), density=0.85)):
            door = door_of(spec, state, behind, machine)
            for look_ahead in range(4):
                game = Game(spec[0], state, behind, machine, look_ahead)
                found = met_places(door, look_ahead)
                self.assertEqual((type(found), found), (list, sorted(game.met)))
                for place in found[number % 5::5]:
                    for sign in "abc":
                        wanted = game.following(place, sign)
                        after = following(door, look_ahead, place, sign)
                        self.assertEqual((type(after), after), (list, wanted))
                        many += len(wanted) > 1
        self.assertGreater(many, 500)

    def test_new_lists(self):
        found = met_places(self.door, 1)
        wanted = list(found)
        found.append(1)
        self.assertEqual(met_places(self.door, 1), wanted)
        found = following(self.door, 0, (0, "", 0), "a")
        found.clear()
        self.assertEqual(following(self.door, 0, (0, "", 0), "a"), [(0, "", 0), (0, "", 1)])

    def test_wrong_look_aheads(self):
        for value in no_look_aheads(3):
            self.fails(InvalidLookAhead, value, lambda: following(self.door, value, (0, "", 0), "a"))
            self.fails(InvalidLookAhead, value, lambda: met_places(self.door, value))
            self.fails(InvalidLookAhead, value, lambda: met_places(Door(self.reader, 0, [], Language(*NONE)), value))


if __name__ == "__main__":
    unittest.main()
