"""[8] Languages: how they are made, their least machines, and the errors."""

import random
import unittest

from sealedslots.errors import InvalidLanguage, InvalidState, InvalidWord, TooLarge
from sealedslots.languages import Language
from tests.samples import OTHER_VALUES, accepts, class_count, copied_machine, random_machines, words

LOOP = [{"a": 0, "b": 0}]
NOT_SIGNS = OTHER_VALUES + ["", "ba", "aa", "abcde", "aab", "aB", "a b", ["a", "b"], ("a",), 3]


def counting(many):
    """A machine over one sign with so many states in its least machine: the number of signs divides by many."""
    return "a", [{"a": (state + 1) % many} for state in range(many)], [0]


class MakingTest(unittest.TestCase):
    def fails(self, problem, place, *given):
        with self.assertRaises(InvalidLanguage) as caught:
            Language(*given)
        self.assertEqual((caught.exception.problem, caught.exception.place), (problem, place), given)

    def test_signs(self):
        for value in NOT_SIGNS:
            self.fails("signs", None, value, [{}], [])
            for make in (Language.every, Language.of):
                with self.assertRaises(InvalidLanguage) as caught:
                    make(value)
                self.assertEqual((caught.exception.problem, caught.exception.place), ("signs", None))
        for signs in ["a", "z", "az", "abc", "wxyz"]:
            self.assertEqual(Language(signs, [{sign: 0 for sign in signs}], [0]).signs, signs)

    def test_states(self):
        for value in OTHER_VALUES:
            if value not in ([[]], ([],), ["a"], ("a",)):
                self.fails("states", None, "a", value, [])
        self.fails("states", None, "a", [], [])
        self.fails("states", None, "a", (), [])
        self.fails("states", None, "a", {0: {"a": 0}}, [])
        self.fails("states", None, "a", [{"a": 0}] * 41, [])
        self.fails("states", None, "a", [5] * 41, [])
        self.assertEqual(len(Language("a", [{"a": 0}] * 40, [])), 1)
        self.assertEqual(len(Language("a", ({"a": 0},) * 40, ())), 1)
        self.assertEqual(Language.MAX_STATES, 6)
        self.assertEqual(Language.every("a").MAX_STATES, 6)

    def test_a_state(self):
        for value in [None, [], (), 0, True, "a", [("a", 0), ("b", 0)], {}, {"a": 0}, {"a": 0, "b": 0, "c": 0},
                      {"a": 0, "c": 0}, {"a": 0, 1: 0}, {"a": 0, "B": 0}, {"a": 0, ("b",): 0}, {"a": 0, None: 0},
                      {"a": 0, "b": 2}, {"a": 0, "b": -1}, {"a": 0, "b": True}, {"a": False, "b": 0},
                      {"a": 0, "b": None}, {"a": 0, "b": "0"}, {"a": 0, "b": []}, {"a": 0, "b": (0, None)}, {"ab": 0}]:
            self.fails("state", 1, "ab", [{"a": 0, "b": 0}, value], [])
            self.fails("state", 0, "ab", [value, {"a": 5}], [])

    def test_members(self):
        for value in [None, 0, True, "", {}, {0}, [2], [-1], [0, 0], (1, 1), [True], [False], ["0"], [None], [[]], [{}],
                      [0, 2], [(0,)], b"", range(1)]:
            self.fails("members", None, "a", [{"a": 1}, {"a": 0}], value)
        for value in [[], (), [1, 0], (1, 0), [1], (0,)]:
            language = Language("a", [{"a": 1}, {"a": 0}], value)
            self.assertEqual(["" in language, "a" in language], [0 in value, 1 in value])

    def test_several_faults(self):
        large = counting(7)
        self.fails("signs", None, "ba", [], 5)
        self.fails("states", None, "ab", [], 5)
        self.fails("state", 1, "a", [{"a": 0}, {"a": 3}, {}], 5)
        self.fails("members", None, "a", large[1], [7])
        self.fails("members", None, "a", large[1], [True])

    def test_too_large(self):
        for many in range(1, 41):
            if many <= 6:
                self.assertEqual(len(Language(*counting(many))), many)
                continue
            with self.assertRaises(TooLarge) as caught:
                Language(*counting(many))
            self.assertEqual((caught.exception.kind, caught.exception.limit), ("language states", 6))

    def test_every(self):
        for signs in ["a", "bd", "wxyz"]:
            language = Language.every(signs)
            self.assertEqual(repr(language), f"Language({signs!r}, {[{sign: 0 for sign in signs}]!r}, (0,))")
            self.assertTrue(all(text in language for text in words(signs, 4)))
            self.assertEqual(language, Language.every(signs=signs))
            self.assertIs(language.is_empty, False)

    def test_of(self):
        for texts in [(), ("",), ("a",), ("b", "a", "b"), ("", "ab", ""), ("aa", "ab", "ba", "bb"), ("abab",)]:
            language = Language.of("ab", *texts)
            self.assertEqual([text for text in words("ab", 6) if text in language],
                             sorted(set(texts), key=lambda text: (len(text), text)))
        self.assertIs(Language.of("ab").is_empty, True)
        self.assertEqual(repr(Language.of("ab")), "Language('ab', [{'a': 0, 'b': 0}], ())")
        self.assertEqual(Language.of(signs="ab"), Language.of("ab"))
        self.assertEqual(Language.of("ab", "a", "a"), Language.of("ab", "a"))
        self.assertNotEqual(Language.of("ab", ""), Language.of("ab"))
        self.assertEqual(len(Language.of("a", "aaaa")), 6)
        self.assertEqual(Language.of("abcd", *words("abcd", 3)),
                         Language("abcd", [{sign: min(state + 1, 4) for sign in "abcd"} for state in range(5)], range_of(4)))

    def test_of_too_large(self):
        for texts in [("aaaaa",), ("a" * 60,), tuple("a" * length for length in range(0, 61, 2)),
                      tuple(word for word in words("ab", 7) if len(word) == 6)]:
            with self.assertRaises(TooLarge) as caught:
                Language.of("ab", *texts)
            self.assertEqual((caught.exception.kind, caught.exception.limit), ("language states", 6))

    def test_of_wrong_texts(self):
        for value in [value for value in OTHER_VALUES if value != ""] + ["c", "abc", "aA", 1, ["ab"]]:
            for texts in [(value,), ("a" * 60, value, "c"), (value, True, "a" * 60)]:
                with self.assertRaises(InvalidWord) as caught:
                    Language.of("ab", *texts)
                self.assertIs(caught.exception.value, value)
                with self.assertRaises(InvalidLanguage):
                    Language.of("ba", *texts)


def range_of(many):
    return list(range(many))


class LeastMachineTest(unittest.TestCase):
    def check(self, machine):
        signs, states, found = machine
        many = class_count(machine)
        if many > 6:
            with self.assertRaises(TooLarge) as caught:
                Language(signs, states, found)
            self.assertEqual((caught.exception.kind, caught.exception.limit), ("language states", 6))
            return None
        language = Language(signs, states, found)
        self.assertEqual(len(language), many)
        self.check_numbering(language, many)
        for text in words(signs, 5):
            self.assertIs(text in language, accepts(machine, text))
        self.check_texts(machine, language)
        return language

    def check_numbering(self, language, many):
        met = [0]
        for state in met:
            for sign in language.signs:
                after = language.move(state, sign)
                if after not in met:
                    met.append(after)
        self.assertEqual(met, list(range(many)))

    def check_texts(self, machine, language):
        # All pairs of states that some text leads to agree, so all texts do.
        signs, states, found = machine
        pairs = [(0, 0)]
        for state, least in pairs:
            self.assertIs(language.is_member(least), state in found)
            for sign in signs:
                after = (states[state][sign], language.move(least, sign))
                if after not in pairs:
                    pairs.append(after)

    def test_small_machines(self):
        for machine in random_machines(21, 400, most_states=6) + random_machines(22, 100, most_states=5, signs="abc"):
            self.check(machine)
        for machine in random_machines(23, 100, most_states=9, signs="a") + random_machines(24, 40, most_states=4, signs="wxyz"):
            self.check(machine)

    def test_machines_of_up_to_40_states(self):
        rng = random.Random(25)
        kept = 0
        for machine in random_machines(26, 150, most_states=6):
            language = self.check(machine)
            copied = copied_machine(rng, machine, rng.randint(6, 40))
            again = self.check(copied)
            self.assertEqual(again, language)
            self.assertEqual(repr(again), repr(language))
            kept += len(copied[1]) > 6
        self.assertGreater(kept, 100)
        for machine in random_machines(27, 60, most_states=40):
            self.check(machine)

    def test_states_of_exactly_six_and_seven(self):
        counts = {}
        for machine in random_machines(28, 600, most_states=9):
            counts[class_count(machine)] = machine
        self.assertIn(6, counts)
        self.assertIn(7, counts)
        for machine in counts.values():
            self.check(machine)

    def test_unreached_states_do_not_matter(self):
        language = Language("ab", [{"a": 2, "b": 2}, {"a": 0, "b": 1}, {"b": 2, "a": 0}, {"a": 3, "b": 3}], [1, 0, 3])
        self.assertEqual(repr(language), "Language('ab', [{'a': 1, 'b': 1}, {'a': 0, 'b': 1}], (0,))")

    def test_lives(self):
        for machine in random_machines(29, 200, most_states=6):
            language = self.check(machine)
            if language is None:
                continue
            starts = {0: ""}
            for text in words("ab", 5):
                state = 0
                for sign in text:
                    state = language.move(state, sign)
                starts.setdefault(state, text)
            for state, text in starts.items():
                wanted = any(accepts(machine, text + rest) for rest in words("ab", 5))
                self.assertIs(language.is_live(state), wanted)
            self.assertIs(language.is_empty, not language.is_live(0))


class AskingTest(unittest.TestCase):
    def setUp(self):
        self.language = Language(signs="ab", states=[{"a": 1, "b": 2}, {"a": 2, "b": 0}, {"a": 2, "b": 2}],
                                 member_states=[1])

    def test_queries(self):
        language = self.language
        self.assertEqual([language.move(0, "a"), language.move(state=0, sign="b"), language.move(1, "b")], [1, 2, 0])
        for state in range(3):
            for sign in "cz":
                self.assertIsNone(language.move(state, sign))
        self.assertEqual([language.is_member(0), language.is_member(1), language.is_member(state=2)], [False, True, False])
        self.assertEqual([language.is_live(0), language.is_live(1), language.is_live(state=2)], [True, True, False])
        self.assertEqual((language.signs, language.is_empty, len(language)), ("ab", False, 3))
        self.assertEqual(repr(language),
                         "Language('ab', [{'a': 1, 'b': 2}, {'a': 2, 'b': 0}, {'a': 2, 'b': 2}], (1,))")

    def test_invalid_state(self):
        for value in OTHER_VALUES + [3, "0", (0,)]:
            for call in (lambda: self.language.move(value, "a"), lambda: self.language.is_member(value),
                         lambda: self.language.is_live(value), lambda: self.language.move(value, "z")):
                with self.assertRaises(InvalidState) as caught:
                    call()
                self.assertIs(caught.exception.value, value)

    def test_states_of_the_given_machine_are_no_states(self):
        language = Language("a", [{"a": 1}, {"a": 2}, {"a": 0}], [0, 1, 2])
        self.assertEqual(language.move(0, "a"), 0)
        self.assertRaises(InvalidState, language.is_member, 1)

    def test_texts(self):
        for value in OTHER_VALUES + ["c", "ac", "abc", 1, "b", "ab", ["a"], ("a",)]:
            self.assertIs(value in self.language, False, value)
        for text in ["a", "aba", "ab" * 29 + "a"]:
            self.assertIs(text in self.language, True)
        self.assertIs("" in Language.of("a", ""), True)

    def test_equality(self):
        unrolled = [{"a": 1, "b": 2}, {"a": 2, "b": 3}, {"a": 4, "b": 2}, {"a": 1, "b": 4}, {"a": 4, "b": 4}]
        self.assertEqual(self.language, Language("ab", unrolled, (1,)))
        self.assertNotEqual(self.language, Language("ab", unrolled, [1, 3]))
        self.assertNotEqual(self.language, Language("ac", [{"a": 1, "c": 2}, {"a": 2, "c": 0}, {"a": 2, "c": 2}], [1]))
        self.assertNotEqual(Language.every("a"), Language.every("b"))
        self.assertNotEqual(Language.every("a"), Language.every("ab"))
        self.assertNotEqual(Language.of("a"), Language.of("b"))
        self.assertEqual(Language.of("ab", "b", "a"), Language.of("ab", "a", "b"))

    def test_equality_of_random_machines(self):
        made = [(machine, Language(*machine)) for machine in random_machines(30, 60, most_states=3)]
        for one, first in made:
            for other, second in made:
                same = all(accepts(one, text) == accepts(other, text) for text in words("ab", 5))
                self.assertIs(first == second, same)
                self.assertIs(first != second, not same)

    def test_other_kinds_are_not_equal(self):
        for value in OTHER_VALUES + ["ab", repr(self.language), 3]:
            self.assertIs(self.language == value, False)
            self.assertIs(self.language != value, True)


class IndependenceTest(unittest.TestCase):
    def test_arguments_are_copied_and_not_changed(self):
        states, found = [{"b": 1, "a": 0}, {"a": 1, "b": 0}], [1, 0][:1]
        language = Language("ab", states, found)
        self.assertEqual((states, list(states[0]), found), ([{"a": 0, "b": 1}, {"a": 1, "b": 0}], ["b", "a"], [1]))
        before = repr(language)
        states[0]["a"] = 1
        states.pop()
        found.append(0)
        self.assertEqual(repr(language), before)
        self.assertIs("a" in language, False)

    def test_queries_change_nothing(self):
        one, other = Language.of("ab", "a", "bb"), Language.every("ab")
        before = repr(one)
        queries = [lambda: one.move(0, "a"), lambda: one.is_live(1), lambda: "bb" in one, lambda: len(one),
                   lambda: one.signs, lambda: repr(one), lambda: repr(other)]
        first = [query() for query in queries]
        for value in [7, True]:
            self.assertRaises(InvalidState, one.move, value, "a")
        self.assertEqual([query() for query in queries], first)
        self.assertEqual(repr(one), before)


if __name__ == "__main__":
    unittest.main()
