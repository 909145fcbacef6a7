"""[17] to [19] Safe places, look-aheads and choices: compared with slow computations."""

import random
import unittest

from sealedslots.covers import is_wide
from sealedslots.doors import Door
from sealedslots.errors import InvalidLookAhead
from sealedslots.games import choices, fall, is_choices, is_written_with, least_look_ahead, safe_places
from sealedslots.languages import Language
from sealedslots.readers import Reader
from tests.cases import Case, no_look_aheads
from tests.door_samples import FAR, FOURTH, LACKING, NONE, door_of, guessing_doors, small_doors
from tests.samples import OTHER_VALUES, random_readers, words
from tests.slow import rows_of_words
from tests.slow_games import Game, is_written_slowly

TOLD = (None, "a", "a", "a", "b", "b", "b")


def some_doors(seed, count, **more):
    """Doors of random readers, and as many readers that have to guess."""
    for door in small_doors(seed, count, **{"told": TOLD, "density": 0.9, "page_signs": "pqrs", **more}):
        yield door
    for door in guessing_doors(seed, 30 * count):
        yield door


class WrittenTest(Case):
    def test_examples(self):
        self.assertEqual([is_written_with(FOURTH, look_ahead) for look_ahead in range(5)], [False, False, False, True, True])
        self.assertEqual([is_written_with(FAR, look_ahead) for look_ahead in range(5)], [False, False, False, False, True])
        self.assertEqual([is_written_with(LACKING, look_ahead) for look_ahead in range(5)], [False] * 5)
        self.assertEqual([least_look_ahead(door) for door in [FOURTH, FAR, LACKING]], [3, 4, None])
        self.assertIs(is_written_with(door=FOURTH, look_ahead=3), True)
        self.assertEqual(least_look_ahead(door=FOURTH), 3)

    def test_special_languages_and_no_state_behind(self):
        reader = Reader([{"p": (0, "a"), "q": (1, None)}, {}])
        for look_ahead in range(4):
            none = Door(reader, 0, [], Language(*NONE))
            self.assertIs(is_written_with(none, look_ahead), True)
            self.assertEqual((safe_places(none, look_ahead), choices(none, look_ahead), fall(none, look_ahead)), ([], {}, None))
            for language in [Language.every("a"), Language.of("a", ""), Language.of("a", "aa")]:
                door = Door(reader, 0, [], language)
                self.assertIs(is_written_with(door, look_ahead), False)
                self.assertEqual((safe_places(door, look_ahead), choices(door, look_ahead)), ([], None))
            only = Door(reader, 0, [1], Language.of("a", ""))
            self.assertEqual((safe_places(only, look_ahead), choices(only, look_ahead)), ([(0, "", 0)], {}))
        self.assertEqual(least_look_ahead(Door(reader, 0, [], Language(*NONE))), 0)
        self.assertIsNone(least_look_ahead(Door(reader, 0, [], Language.every("a"))))
        self.assertEqual(least_look_ahead(Door(reader, 0, [1], Language.every("a"))), 0)

    def test_slow_games(self):
        counts = {}
        for spec, state, behind, machine in some_doors(131, 40):
            door = door_of(spec, state, behind, machine)
            written = []
            for look_ahead in range(4):
                game = Game(spec[0], state, behind, machine, look_ahead)
                found = safe_places(door, look_ahead)
                self.assertEqual((type(found), found), (list, sorted(game.safe)))
                self.assertIs(is_written_with(door, look_ahead), game.is_written())
                written.append(game.is_written())
            written.append(is_wide(door))
            self.assertIs(is_written_with(door, 4), is_wide(door))
            self.assertEqual(written, sorted(written))
            least = written.index(True) if True in written else None
            self.assertEqual(least_look_ahead(door), least)
            counts[least] = counts.get(least, 0) + 1
        self.assertGreater(min(counts.get(least, 0) for least in [0, 1, 2, 3, None]), 2, counts)

    def test_writers_of_a_few_texts(self):
        # All ways to write are tried, text by text, without places.
        rng = random.Random(132)
        counts = {True: 0, False: 0}
        for spec in random_readers(132, 300, told=("a", "a", "b", "b"), density=0.9, most_states=4, page_signs="pqrs"):
            texts = rng.sample(list(words("ab", 4)), rng.randint(1, 4))
            behind = [state for state in range(len(spec[0])) if rng.random() < 0.7]
            try:
                door = Door(Reader(spec[0]), spec[2], behind, Language.of("ab", *texts))
            except ArithmeticError:
                continue
            for look_ahead in range(5):
                wanted = is_written_slowly(spec[0], spec[2], behind, texts, look_ahead)
                self.assertIs(is_written_with(door, look_ahead), wanted)
                counts[wanted] += 1
        self.assertGreater(min(counts.values()), 100)

    def test_wrong_look_aheads(self):
        for value in no_look_aheads(3):
            for call in [safe_places, choices, fall]:
                self.fails(InvalidLookAhead, value, lambda: call(FOURTH, value))
            self.fails(InvalidLookAhead, value, lambda: is_choices(FOURTH, value, {}))
            self.fails(InvalidLookAhead, value, lambda: is_choices(FOURTH, value, None))
        for value in no_look_aheads(4):
            self.fails(InvalidLookAhead, value, lambda: is_written_with(FOURTH, value))
            self.fails(InvalidLookAhead, value, lambda: is_written_with(Door(Reader([{}]), 0, [], Language(*NONE)), value))


class ChoicesTest(Case):
    def test_the_example_of_the_document(self):
        reader = Reader([{"x": (0, "a"), "y": (1, "a")}, {}], [1])
        door = Door(reader, 0, [1], Language("a", [{"a": 1}, {"a": 1}], [1]))
        self.assertEqual(choices(door, 1), {(1, "a", 0, "a"): 0})
        self.assertEqual(choices(door, 2), {(1, "aa", 0, "a"): 0})
        self.assertIsNone(choices(door, 0))

    def test_the_least_word_decides(self):
        # To 2 leads p, to 1 leads q; the state 1 is less, but the word p is. From 3, both words are longer.
        reader = Reader([{"p": (2, "a"), "q": (1, "a"), "r": (3, None)}, {"p": (1, "a")}, {"p": (2, "a")}, {"p": (0, "a")}])
        door = Door(reader, 0, [0, 1, 2, 3], Language.every("a"))
        found = choices(door, 0)
        self.assertEqual(found, {(0, "", 0, "a"): 2, (0, "", 1, "a"): 1, (0, "", 2, "a"): 2, (0, "", 3, "a"): 0})
        # A lesser word that leads to a place that is not safe is not taken.
        self.assertEqual(choices(Door(reader, 0, [0, 1, 3], Language.every("a")), 0)[(0, "", 0, "a")], 1)
        self.assertEqual(choices(Door(reader, 0, [0], Language.every("a")), 0), {(0, "", 0, "a"): 0})
        self.assertEqual(choices(Door(Reader([{"r": (1, None)}, {"p": (0, "a")}]), 0, [0], Language.every("a")), 0),
                         {(0, "", 0, "a"): 0})

    def test_slow_choices(self):
        entries, none = 0, 0
        for spec, state, behind, machine in some_doors(133, 40):
            door = door_of(spec, state, behind, machine)
            tables = rows_of_words(spec[0], sorted({sign for moves in spec[0] for sign in moves}), 3)
            for look_ahead in range(4):
                game = Game(spec[0], state, behind, machine, look_ahead)
                found = choices(door, look_ahead)
                if not game.is_written():
                    self.assertIsNone(found)
                    none += 1
                    continue
                wanted = game.choices(tables)
                if wanted is not None:
                    self.assertEqual(found, wanted)
                    entries += len(wanted)
                self.assertEqual(list(found), sorted(found))
                self.assertIs(is_choices(door, look_ahead, found), True)
                self.assertEqual(choices(look_ahead=look_ahead, door=door), found)
                found[()] = 1
                self.assertEqual(len(choices(door, look_ahead)), len(found) - 1)
        self.assertGreater(entries, 2000)
        self.assertGreater(none, 300)

    def test_values_of_the_right_form(self):
        rng = random.Random(134)
        counts = {True: 0, False: 0}
        others = 0
        for spec, state, behind, machine in some_doors(135, 60, most_states=3):
            door = door_of(spec, state, behind, machine)
            for look_ahead in range(3):
                game = Game(spec[0], state, behind, machine, look_ahead)
                known = choices(door, look_ahead)
                value = dict(known or {})
                for key in list(value):
                    if rng.random() < 0.1:
                        value[key] = rng.randrange(len(spec[0]))
                    if rng.random() < 0.02:
                        del value[key]
                for place in sorted(game.met):
                    if rng.random() < 0.2:
                        value[place + (rng.choice("ab"),)] = rng.randrange(len(spec[0]))
                wanted = game.is_choices(value)
                self.assertIs(is_choices(door, look_ahead, value), wanted, (spec, state, behind, machine, look_ahead, value))
                self.assertLessEqual(wanted, game.is_written())
                counts[wanted] += 1
                others += wanted and any(value[key] != known[key] for key in known if key in value)
        self.assertGreater(min(counts.values()), 200)
        self.assertGreater(others, 20)


class IsChoicesTest(Case):
    def setUp(self):
        self.reader = Reader([{"p": (0, "a"), "q": (1, "a"), "r": (2, "a")}, {"p": (0, "a"), "q": (1, None)}, {"s": (0, None)}])
        self.door = Door(self.reader, 0, [0], Language.every("a"))
        self.found = {(0, "", 0, "a"): 0, (0, "", 1, "a"): 0, (0, "", 2, "a"): 0}

    def accepted(self, value, look_ahead=0, door=None):
        self.assertIs(is_choices(door or self.door, look_ahead, value), True, repr(value)[:200])

    def refused(self, value, look_ahead=0, door=None):
        self.assertIs(is_choices(door or self.door, look_ahead, value), False, repr(value)[:200])

    def test_accepted(self):
        self.assertEqual(choices(self.door, 0), {(0, "", 0, "a"): 0, (0, "", 2, "a"): 0})
        key = (0, "", 0, "a")
        self.accepted({key: 0})
        self.accepted(self.found)
        self.assertIs(is_choices(value=self.found, look_ahead=0, door=self.door), True)
        # Other choices do as well; so does a place from which silent moves lead behind.
        self.accepted({key: 2, (0, "", 2, "a"): 2})
        self.accepted({key: 2, (0, "", 2, "a"): 0})
        # With one sign held.
        self.accepted({(0, "a", 0, "a"): 0}, 1)
        self.accepted({(0, "a", 0, "a"): 1, (0, "a", 1, "a"): 0}, 1)

    def test_further_entries(self):
        for key in [0, "", None, True, (), (0,), (0, "", 0), (0, "", 1, "a"), (0, "", 5, "a"), ("0", "", 0, "a"), (0, "", 0, "b"),
                    (0, None, 0, "a"), (None, None, None, None), (0, "", 0, ("a",)), len, object(), b"a", (0, "a", 0, "a")]:
            for value in OTHER_VALUES + [0, 1, 2, 99]:
                self.accepted({(0, "", 0, "a"): 0, key: value})
                self.accepted({key: value, (0, "", 0, "a"): 0})
                self.refused({key: value}, 1, Door(self.reader, 0, [0], Language.of("a", "", "aa")))

    def test_each_property_alone(self):
        key = (0, "", 0, "a")
        # An entry left out, here and further on; an entry for a place that does not follow.
        self.refused({})
        self.refused({(0, "", 2, "a"): 0})
        self.refused({key: 2})
        self.refused({key: 3})
        self.refused({key: -1})
        self.refused({(0, "a", 0, "a"): 1}, 1)
        self.refused({(0, "a", 0, "a"): 1, (0, "a", 1, "a"): 2}, 1)
        # A place that is not right at a member state.
        self.refused({key: 1, (0, "", 1, "a"): 0})
        self.refused({key: 0}, 0, Door(self.reader, 0, [2], Language.every("a")))
        self.refused({(0, "a", 1, "a"): 0, (0, "a", 0, "a"): 0}, 1, Door(self.reader, 1, [0, 2], Language.every("a")))
        self.refused({}, 0, Door(self.reader, 0, [2], Language.of("a", "")))
        self.accepted({}, 0, Door(self.reader, 2, [0], Language.of("a", "")))
        # Keys for the wrong look-ahead.
        self.refused({key: 0}, 1)
        self.refused({(0, "a", 0, "a"): 0}, 0)

    def test_states_and_keys_of_other_forms(self):
        key = (0, "", 0, "a")
        for state in OTHER_VALUES + ["0", 3, [0], (0,), 10 ** 29]:
            self.refused({key: state})
        door = Door(self.reader, 0, [1], Language.of("a", "a"))
        self.accepted({(0, "", 0, "a"): 1}, 0, door)
        self.refused({(0, "", 0, "a"): True}, 0, door)
        for other in [(False, "", 0, "a"), (0, "", False, "a"), (0, "", 0, b"a"), (0, b"", 0, "a"), (0, "", 0), (0, "", 0, "a", 0),
                      "0a", (0, ("",), 0, "a")]:
            self.refused({other: 0})

    def test_no_dict(self):
        for value in OTHER_VALUES + [list(self.found.items()), list(self.found), tuple(self.found.items()), "", 0]:
            self.refused(value)
            if not isinstance(value, dict):
                self.refused(value, 0, Door(self.reader, 0, [], Language(*NONE)))

    def test_languages_without_texts(self):
        for value in [{}, {0: 1}, {(0, "", 0, "a"): True}]:
            self.accepted(value, 2, Door(self.reader, 0, [], Language(*NONE)))

    def test_never_for_a_door_that_is_not_written(self):
        rng = random.Random(136)
        for look_ahead in range(3):
            keys = [(at, held, state, sign) for at in range(4) for held in words("ab", look_ahead) for state in range(4)
                    for sign in "ab"]
            for _ in range(100):
                self.refused({key: rng.randrange(4) for key in keys}, look_ahead, FOURTH)


if __name__ == "__main__":
    unittest.main()
