"""[9], [10] Silent moves, steps, last states, doors and the texts that are written through them."""

import unittest

from sealedslots.doors import Door, is_writable, last_states, silent, step
from sealedslots.errors import InvalidState, InvalidStates, InvalidWord
from sealedslots.languages import Language
from sealedslots.readers import Reader
from tests.cases import NOT_WORDS, Case, made, no_sets, no_states, subsets
from tests.samples import OTHER_VALUES, random_readers, words
from tests.slow import last_set, rows_of_words, silent_set, step_set

RING = [{"p": (1, None), "q": (3, "a")}, {"p": (2, None), "q": (1, "a"), "r": (0, "go")}, {"p": (0, None), "r": (3, "b")},
        {"q": (0, "a"), "p": (3, "a"), "r": (2, "stop")}]
NOT_STATES, NOT_SETS = no_states(4), no_sets(4)


class SetsTest(Case):
    def test_examples(self):
        reader = Reader(RING, [3])
        self.assertEqual(silent(reader, [0]), (0, 1, 2))
        self.assertEqual(silent(reader, (3,)), (3,))
        self.assertEqual(silent(states=[3, 1], reader=reader), (0, 1, 2, 3))
        self.assertEqual(step(reader, [0], "a"), (3,))
        self.assertEqual(step(reader, [3], "a"), (0, 1, 2, 3))
        self.assertEqual(step(reader, (1,), "a"), (0, 1, 2))
        self.assertEqual(step(sign="b", states=(2,), reader=reader), (3,))
        self.assertEqual(last_states(reader, 0, ""), (0, 1, 2))
        self.assertEqual(last_states(reader, 0, "b"), (3,))
        self.assertEqual(last_states(text="ba", reader=reader, state=1), (0, 1, 2, 3))
        self.assertEqual(last_states(reader, 3, "b"), ())

    def test_step_does_not_take_silent_moves_first(self):
        reader = Reader([{"p": (1, None)}, {"p": (2, "a")}, {"p": (3, None)}, {}])
        self.assertEqual(step(reader, [0], "a"), ())
        self.assertEqual(step(reader, [1], "a"), (2, 3))
        self.assertEqual(last_states(reader, 0, "a"), (2, 3))

    def test_no_states_and_signs_that_no_move_tells(self):
        reader = Reader(RING, [3])
        for states in [[], ()]:
            self.assertEqual(silent(reader, states), ())
            self.assertEqual(step(reader, states, "a"), ())
        for sign in "cdz":
            self.assertEqual(step(reader, [0, 1, 2, 3], sign), ())
            self.assertEqual(last_states(reader, 0, "a" + sign), ())
            self.assertEqual(last_states(reader, 0, sign), ())
        # The letters of a mark are not told by its move.
        self.assertEqual([step(reader, [1, 3], sign) for sign in "gostp"], [()] * 5)
        self.assertEqual(last_states(reader, 1, "go"), ())

    def test_all_sets(self):
        for spec in random_readers(41, 60, most_states=4) + random_readers(42, 40, most_states=4, page_signs="pq"):
            reader = made(spec)
            for states in subsets(len(reader)):
                wanted = tuple(sorted(silent_set(spec[0], states)))
                steps = {sign: tuple(sorted(step_set(spec[0], states, sign))) for sign in "abc"}
                for given in [states, list(states), states[::-1], list(states[::-1])]:
                    self.assertEqual(silent(reader, given), wanted)
                    for sign in "abc":
                        found = step(reader, given, sign)
                        self.assertEqual((type(found), found), (tuple, steps[sign]))

    def test_all_short_words(self):
        # A word that writes a text of n signs needs at most two silent moves ahead of each sign, and behind them all.
        for spec in random_readers(43, 120, page_signs="pq", told=(None, None, "a", "a", "b", "go")):
            reader = made(spec)
            tables = rows_of_words(spec[0], "pq", 8)
            for state, table in enumerate(tables):
                for text in words("abc", 2):
                    wanted = sorted({last for row, last in table if row == tuple(text)})
                    found = last_states(reader, state, text)
                    self.assertEqual((type(found), found), (tuple, tuple(wanted)), (spec, state, text))
                self.assertEqual(silent(reader, [state]), last_states(reader, state, ""))

    def test_long_texts(self):
        for spec in random_readers(44, 40, most_states=12, page_signs="pqrstu"):
            reader = made(spec)
            for text in ["ab" * 30, "a" * 60, "b" * 59, "aab" * 20]:
                for state in range(len(reader)):
                    self.assertEqual(last_states(reader, state, text), tuple(sorted(last_set(spec[0], state, text))))

    def test_wrong_values(self):
        reader = Reader(RING, [3])
        for value in NOT_SETS:
            self.fails(InvalidStates, value, lambda: silent(reader, value))
            self.fails(InvalidStates, value, lambda: step(reader, value, "a"))
        for value in NOT_STATES:
            self.fails(InvalidState, value, lambda: last_states(reader, value, "a"))
            self.fails(InvalidState, value, lambda: last_states(reader, value, 7))
        for value in NOT_WORDS:
            self.fails(InvalidWord, value, lambda: last_states(reader, 0, value))

    def test_arguments_stay_as_they_are(self):
        reader, states = Reader(RING, [3]), [3, 0, 1]
        before = repr(reader)
        first = [silent(reader, states), step(reader, states, "a"), last_states(reader, 0, "aab")]
        again = [silent(reader, states), step(reader, states, "a"), last_states(reader, 0, "aab")]
        self.assertEqual(first, again)
        self.assertEqual((states, repr(reader)), ([3, 0, 1], before))


class DoorTest(Case):
    def setUp(self):
        self.reader, self.language = Reader(RING, [3]), Language.of("ab", "ab", "")
        self.door = Door(self.reader, 1, [3, 0, 2], self.language)

    def test_properties(self):
        self.assertEqual((self.door.reader, self.door.state, self.door.behind, self.door.language),
                         (self.reader, 1, (0, 2, 3), self.language))
        door = Door(language=self.language, behind=(), state=0, reader=self.reader)
        self.assertEqual((door.state, door.behind), (0, ()))
        for behind in [(3, 0, 2), [0, 2, 3], (2, 3, 0)]:
            self.assertEqual(Door(self.reader, 1, behind, self.language).behind, (0, 2, 3))

    def test_equality(self):
        same = Door(Reader(RING, (3,)), 1, (2, 0, 3), Language("ab", [{"a": 1, "b": 3}, {"a": 3, "b": 2}, {"a": 3, "b": 3},
                                                                     {"a": 3, "b": 3}], [2, 0]))
        self.assertTrue(self.door == same)
        self.assertFalse(self.door != same)
        for other in [Door(Reader(RING), 1, [3, 0, 2], self.language), Door(self.reader, 0, [3, 0, 2], self.language),
                      Door(self.reader, 1, [3, 0], self.language), Door(self.reader, 1, [3, 0, 2], Language.every("ab"))]:
            self.assertFalse(self.door == other)
            self.assertTrue(self.door != other)
        for value in OTHER_VALUES + [self.reader, self.language, (self.reader, 1, (0, 2, 3), self.language), 1, "a"]:
            self.assertFalse(self.door == value)
            self.assertTrue(self.door != value)

    def test_copies(self):
        behind = [3, 0]
        door = Door(self.reader, 1, behind, self.language)
        behind.append(1)
        self.assertEqual(door.behind, (0, 3))

    def test_wrong_values(self):
        for value in NOT_STATES:
            for behind in [[0], [9], 5, True]:
                self.fails(InvalidState, value, lambda: Door(self.reader, value, behind, self.language))
        for value in NOT_SETS:
            self.fails(InvalidStates, value, lambda: Door(self.reader, 0, value, self.language))
        for value in NOT_WORDS:
            self.fails(InvalidWord, value, lambda: is_writable(self.door, value))

    def test_is_writable(self):
        door = Door(self.reader, 0, [3], self.language)
        self.assertIs(is_writable(door, "b"), True)
        self.assertIs(is_writable(door, ""), False)
        self.assertIs(is_writable(text="a", door=door), True)
        for text in ["c", "bc", "cb", "go", "z"]:
            self.assertIs(is_writable(door, text), False)
        self.assertIs(is_writable(Door(self.reader, 0, [], self.language), "a"), False)
        self.assertIs(is_writable(Door(self.reader, 0, [2], self.language), ""), True)
        # Texts may have signs that the language does not have.
        self.assertIs(is_writable(Door(self.reader, 0, [3], Language.of("a")), "b"), True)

    def test_all_short_texts(self):
        for spec in random_readers(45, 80, most_states=4):
            reader = made(spec)
            for state in range(len(reader)):
                for behind in subsets(len(reader)):
                    door = Door(reader, state, behind, self.language)
                    for text in words("abc", 3):
                        wanted = bool(last_set(spec[0], state, text) & set(behind))
                        self.assertIs(is_writable(door, text), wanted)


if __name__ == "__main__":
    unittest.main()
