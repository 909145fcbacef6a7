"""[6], [9] Least words from one state to another, and least words that write texts."""

import itertools
import unittest

from sealedslots.doors import Door, is_writable
from sealedslots.errors import InvalidRow, InvalidState, InvalidWord
from sealedslots.languages import Language
from sealedslots.pages import least_page, passed
from sealedslots.readers import Reader
from sealedslots.writings import least_word, least_writing
from tests.cases import NOT_ROWS, NOT_WORDS, Case, made, no_states, subsets
from tests.samples import random_readers, words
from tests.slow import rows_of_words

STATES = [{"q": (1, "begin")}, {"p": (1, "a"), "q": (2, "end"), "r": (3, None)}, {}, {"q": (1, "b"), "r": (1, "a")}]
NOT_STATES = no_states(4)
NAMES = ["a", "b", "go", "other"]


class LeastWordTest(Case):
    def test_examples(self):
        reader = Reader(STATES)
        self.assertEqual(least_word(reader, 0, ("begin", "b", "a", "end"), 2), "qrqpq")
        self.assertEqual(least_word(reader, 1, ("b", "a"), 1), "rqp")
        self.assertEqual(least_word(target=3, row=("b",), state=1, reader=reader), "rqr")
        self.assertEqual(least_word(reader, 1, (), 3), "r")
        for state in range(4):
            self.assertEqual(least_word(reader, state, (), state), "")
        for state, row, target in [(1, (), 2), (0, (), 1), (2, ("a",), 2), (1, ("c",), 1), (1, ("endless",), 2),
                                   (0, ("end",), 2), (0, ("begin", "begin"), 1), (3, ("a",), 2)]:
            self.assertIsNone(least_word(reader, state, row, target))

    def test_ties_go_to_the_first_string(self):
        reader = Reader([{"b": (1, "x"), "a": (2, None)}, {"a": (3, None)}, {"b": (3, "x"), "c": (3, "x")}, {}])
        self.assertEqual(least_word(reader, 0, ("x",), 3), "ab")
        ring = [{"z": ((state + 1) % 12, "a" if state == 11 else None), "a": (state, None)} for state in range(12)]
        self.assertEqual(least_word(Reader(ring), 3, ("a", "a"), 2), "z" * 23)
        self.assertEqual(least_word(Reader(ring), 3, (), 11), "z" * 8)
        self.assertIsNone(least_word(Reader(ring), 3, (), 2))

    def test_all_short_words(self):
        # A least word visits no state twice between two names.
        for spec in random_readers(71, 150, page_signs="pq", told=(None, None, "a", "b", "go")):
            reader = made(spec)
            tables = rows_of_words(spec[0], "pq", 8)
            for state, table in enumerate(tables):
                for length in range(3):
                    for row in itertools.product(NAMES, repeat=length):
                        for target in range(len(reader)):
                            wanted = table.get((row, target))
                            self.assertEqual(least_word(reader, state, row, target), wanted, (spec, state, row, target))

    def test_more_signs_and_states(self):
        for spec in random_readers(72, 60, most_states=5):
            reader = made(spec)
            for state, table in enumerate(rows_of_words(spec[0], "pqr", 5)):
                for (row, target), word in table.items():
                    self.assertEqual(least_word(reader, state, row, target), word)

    def test_long_rows(self):
        reader = Reader(STATES, [2])
        row = ("begin",) + ("a", "b") * 39 + ("end",)
        self.assertEqual(least_word(reader, 0, row, 2), "q" + "prq" * 39 + "q")
        self.assertEqual(passed(reader, 0, least_word(reader, 0, row, 2)), (row, 2))
        self.assertEqual(least_word(reader, 0, row, 2), least_page(reader, row))

    def test_wrong_values(self):
        reader = Reader(STATES)
        for value in NOT_STATES:
            for row, target in [((), 0), ([], 9), (None, None)]:
                self.fails(InvalidState, value, lambda: least_word(reader, value, row, target))
            self.fails(InvalidState, value, lambda: least_word(reader, 0, ("begin",), value))
        for value in NOT_ROWS:
            for target in [0, 9, None, True]:
                self.fails(InvalidRow, value, lambda: least_word(reader, 0, value, target))


class LeastWritingTest(Case):
    def test_examples(self):
        door = Door(Reader(STATES), 1, [1, 3], Language.every("ab"))
        self.assertEqual(least_writing(door, ""), "")
        self.assertEqual(least_writing(door, "ab"), "prq")
        self.assertEqual(least_writing(text="ba", door=door), "rqp")
        self.assertIsNone(least_writing(door, "c"))
        self.assertIsNone(least_writing(door, "ac"))
        self.assertEqual(least_writing(Door(Reader(STATES), 1, [3], Language.every("ab")), ""), "r")
        self.assertIsNone(least_writing(Door(Reader(STATES), 1, [0, 2], Language.every("ab")), ""))
        self.assertIsNone(least_writing(Door(Reader(STATES), 1, [], Language.every("ab")), "a"))
        # The text need not belong to the language.
        self.assertEqual(least_writing(Door(Reader(STATES), 1, [1], Language.of("a")), "b"), "rq")

    def test_marks_are_not_written(self):
        reader = Reader([{"p": (1, "go")}, {"q": (1, "g"), "r": (1, "o")}])
        self.assertIsNone(least_writing(Door(reader, 0, [1], Language.every("a")), "go"))
        self.assertEqual(least_writing(Door(reader, 1, [1], Language.every("a")), "go"), "qr")

    def test_all_short_words(self):
        for spec in random_readers(73, 120, page_signs="pq", told=(None, None, "a", "a", "b", "go")):
            reader = made(spec)
            for state, table in enumerate(rows_of_words(spec[0], "pq", 8)):
                for behind in subsets(len(reader)):
                    door = Door(reader, state, behind, Language.every("ab"))
                    for text in words("abg", 2):
                        found = [table[(tuple(text), last)] for last in behind if (tuple(text), last) in table]
                        wanted = min(found, key=lambda word: (len(word), word), default=None)
                        self.assertEqual(least_writing(door, text), wanted, (spec, state, behind, text))
                        self.assertIs(is_writable(door, text), wanted is not None)

    def test_long_texts(self):
        door = Door(Reader(STATES), 1, [1], Language.every("ab"))
        self.assertEqual(least_writing(door, "ab" * 30), "prq" * 30)
        self.assertEqual(least_writing(door, "ab" * 30), least_writing(door, "ab" * 30))

    def test_wrong_words(self):
        door = Door(Reader(STATES), 1, [1], Language.every("ab"))
        for value in NOT_WORDS:
            self.fails(InvalidWord, value, lambda: least_writing(door, value))


if __name__ == "__main__":
    unittest.main()
