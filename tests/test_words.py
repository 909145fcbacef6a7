"""[2] Signs, marks, words and rows, and the tests of numbers that all modules share."""

import unittest

from sealedslots.readers import is_mark, is_row, is_sign, is_word
from sealedslots.values import are_states, is_below, is_integer
from tests.samples import OTHER_VALUES


class WordsTest(unittest.TestCase):
    def check(self, value, sign, mark, word, row):
        for test, wanted in ((is_sign, sign), (is_mark, mark), (is_word, word), (is_row, row)):
            self.assertIs(test(value), wanted, (test, value))
            self.assertIs(test(value=value), wanted, (test, value))

    def test_words_by_length(self):
        self.check("", False, False, True, False)
        for letter in "abmyz":
            self.check(letter, True, False, True, False)
        for length in range(2, 9):
            self.check("az" * 4 if length == 8 else "z" * length, False, True, True, False)
        self.check("abcdefghi", False, False, True, False)
        self.check("z" * 400, False, False, True, False)

    def test_other_characters(self):
        for value in ["A", "Z", "0", "9", "`", "{", "_", " ", "\n", "-", "."]:
            self.check(value, False, False, False, False)
            self.check("a" + value, False, False, False, False)
            self.check(value + "ab", False, False, False, False)
        self.check("aBc", False, False, False, False)

    def test_values_of_other_kinds(self):
        for value in OTHER_VALUES:
            if not isinstance(value, tuple):
                self.check(value, False, False, False, False)
        for value in [1, 0, ["a"], [], {"a"}, {"a": "b"}, b"ab"]:
            self.check(value, False, False, False, False)

    def test_rows(self):
        for row in [(), ("a",), ("ab",), ("a", "begin", "z", "abcdefgh"), ("a",) * 80]:
            self.check(row, False, False, False, True)
            self.check(list(row), False, False, False, False)
        for row in [("",), ("A",), ("a", ""), ("abcdefghi",), ("a", None), (True,), (1,), (("a",),), (["a"],), ([],),
                    ("a", {}), ("a b",), (b"a",)]:
            self.check(row, False, False, False, False)


class NumbersTest(unittest.TestCase):
    def test_integers(self):
        for value in [0, 1, -1, 10 ** 29]:
            self.assertIs(is_integer(value), True)
        for value in [True, False, None, "1", [1], (1,), {}]:
            self.assertIs(is_integer(value), False)

    def test_below(self):
        self.assertEqual([value for value in range(-3, 6) if is_below(value, 3)], [0, 1, 2])
        self.assertIs(is_below(True, 3), False)
        self.assertIs(is_below(False, 3), False)
        self.assertIs(is_below([], 3), False)

    def test_states(self):
        for value in [[], (), [2, 0, 1], (1,)]:
            self.assertIs(are_states(value, 3), True)
        for value in [[3], [-1], [0, 0], [True], [0, False], [1, True], {0: 1}, {0}, "0", None, 0, [[0]], [[]], range(2)]:
            self.assertIs(are_states(value, 3), False, value)


if __name__ == "__main__":
    unittest.main()
