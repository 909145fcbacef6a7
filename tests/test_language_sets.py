"""[8] Languages as sets of texts: both, either, without, the least texts outside and inside, and the members."""

import unittest

from sealedslots.errors import InvalidCount, SignsDiffer, TooLarge
from sealedslots.languages import Language, both, either, first_outside, is_within, least_text, members, without
from tests.samples import OTHER_VALUES, accepts, class_count, random_machines, words

OPERATIONS = [(both, lambda p, q: p and q), (either, lambda p, q: p or q), (without, lambda p, q: p and not q)]


def counting(many, signs="a"):
    """The texts whose number of signs divides by many."""
    return Language(signs, [{sign: (state + 1) % many for sign in signs} for state in range(many)], [0])


def product_machine(one, other, belongs):
    """The machine of all pairs of states, reached or not, as samples has machines."""
    signs, first, found = one
    _, second, found_too = other
    wide = len(second)
    states = [{sign: first[p][sign] * wide + second[q][sign] for sign in signs}
              for p in range(len(first)) for q in range(wide)]
    chosen = [p * wide + q for p in range(len(first)) for q in range(wide) if belongs(p in found, q in found_too)]
    return signs, states, chosen


class OperationsTest(unittest.TestCase):
    def test_all_short_texts(self):
        too_large = 0
        machines = [machine for machine in random_machines(31, 80, most_states=6) if class_count(machine) <= 6]
        machines += [("ab", [{"a": 0, "b": 0}], []), ("ab", [{"a": 0, "b": 0}], [0])]
        for at, one in enumerate(machines):
            for other in [machines[(at + 1) % len(machines)], machines[(at * 7 + 3) % len(machines)], machines[-1],
                          machines[-2], one]:
                for operation, belongs in OPERATIONS:
                    too_large += self.check(operation, belongs, one, other)
                self.check_outside(one, other)
        self.assertGreater(too_large, 10)

    def check(self, operation, belongs, one, other):
        """Whether the result is too large."""
        first, second = Language(*one), Language(*other)
        many = class_count(product_machine(one, other, belongs))
        if many > 6:
            with self.assertRaises(TooLarge) as caught:
                operation(first, second)
            self.assertEqual((caught.exception.kind, caught.exception.limit), ("language states", 6))
            return True
        found = operation(first, second)
        self.assertEqual(len(found), many)
        self.assertEqual(found, operation(one=first, other=second))
        for text in words(one[0], 5):
            self.assertIs(text in found, belongs(accepts(one, text), accepts(other, text)))
        return False

    def check_outside(self, one, other):
        # A least text outside visits no pair of states twice.
        texts = words(one[0], 8)
        wanted = next((text for text in texts if accepts(one, text) and not accepts(other, text)), None)
        first, second = Language(*one), Language(*other)
        found = first_outside(first, second)
        if wanted is None and found is not None:
            self.assertGreater(len(found), 8)
            self.assertTrue(accepts(one, found) and not accepts(other, found))
        else:
            self.assertEqual(found, wanted)
        self.assertEqual(first_outside(one=first, other=second), found)
        self.assertIs(is_within(first, second), found is None)
        self.assertIs(is_within(one=first, other=second), found is None)

    def test_three_and_four_signs(self):
        for signs in ["xyz", "wxyz"]:
            machines = random_machines(32, 20, most_states=3, signs=signs)
            for one, other in zip(machines, machines[1:]):
                for operation, belongs in OPERATIONS:
                    if class_count(product_machine(one, other, belongs)) <= 6:
                        found = operation(Language(*one), Language(*other))
                        for text in words(signs, 4):
                            self.assertIs(text in found, belongs(accepts(one, text), accepts(other, text)))

    def test_no_texts_and_all_texts(self):
        none, every, some = Language.of("ab"), Language.every("ab"), Language.of("ab", "", "ba")
        self.assertEqual([both(none, some), both(some, every), either(none, some), either(some, every)],
                         [none, some, some, every])
        self.assertEqual([without(some, none), without(some, every), without(some, some), without(none, some)],
                         [some, none, none, none])
        self.assertEqual([first_outside(none, some), first_outside(every, none), first_outside(every, some),
                          first_outside(some, every)], [None, "", "a", None])
        self.assertEqual([is_within(none, none), is_within(every, every), is_within(some, none)], [True, True, False])

    def test_large_products(self):
        two, three, four, five, six = [counting(many) for many in (2, 3, 4, 5, 6)]
        self.assertEqual(both(two, three), six)
        self.assertEqual(either(six, two), two)
        for one, other in [(two, five), (three, four), (five, six)]:
            for operation in (both, either, without):
                with self.assertRaises(TooLarge) as caught:
                    operation(one, other)
                self.assertEqual((caught.exception.kind, caught.exception.limit), ("language states", 6))
        self.assertEqual(first_outside(five, six), "aaaaa")
        self.assertEqual(first_outside(six, five), "a" * 6)
        self.assertEqual(first_outside(without(counting(5), Language.of("a", "")), counting(6)), "aaaaa")
        ending = Language("a", [{"a": 1}, {"a": 2}, {"a": 3}, {"a": 4}, {"a": 0}], [4])
        rest = Language("a", [{"a": 1}, {"a": 2}, {"a": 3}, {"a": 4}, {"a": 5}, {"a": 0}], [0, 1, 2, 3, 4])
        self.assertEqual(first_outside(ending, rest), "a" * 29)
        self.assertIs(is_within(ending, rest), False)
        self.assertIs(is_within(six, two), True)

    def test_signs_differ(self):
        for operation in (both, either, without, first_outside, is_within):
            for one, other in [(Language.every("a"), Language.every("b")), (Language.of("ab"), Language.of("a")),
                               (counting(5), counting(6, "b")), (counting(5, "ab"), counting(6))]:
                with self.assertRaises(SignsDiffer) as caught:
                    operation(one, other)
                self.assertEqual((caught.exception.one, caught.exception.other), (one.signs, other.signs))

    def test_arguments_stay_as_they_are(self):
        one, other = Language.of("ab", "a", "b"), Language.of("ab", "b", "ab")
        before = repr(one), repr(other)
        first = [operation(one, other) for operation in (both, either, without, first_outside, is_within)]
        again = [operation(one, other) for operation in (both, either, without, first_outside, is_within)]
        self.assertEqual(first, again)
        self.assertEqual((repr(one), repr(other)), before)


class TextsTest(unittest.TestCase):
    def test_least_text(self):
        for machine in random_machines(33, 200, most_states=6):
            if class_count(machine) <= 6:
                wanted = next((text for text in words("ab", 5) if accepts(machine, text)), None)
                self.assertEqual(least_text(Language(*machine)), wanted)
                self.assertEqual(least_text(language=Language(*machine)), wanted)
        self.assertIsNone(least_text(Language.of("ab")))
        self.assertEqual(least_text(Language.of("ab", "ba", "b", "bb")), "b")
        self.assertEqual(least_text(Language.every("ab")), "")

    def test_members(self):
        for machine in random_machines(34, 100, most_states=6):
            if class_count(machine) <= 6:
                language = Language(*machine)
                for most in (0, 1, 2, 6):
                    wanted = [text for text in words("ab", most) if accepts(machine, text)]
                    self.assertEqual(list(members(language, most)), wanted)
                    self.assertEqual(list(members(most=most, language=language)), wanted)

    def test_members_of_eight_signs(self):
        self.assertEqual(len(list(members(Language.every("abc"), 8))), (3 ** 9 - 1) // 2)
        self.assertEqual(list(members(counting(3), 8)), ["", "aaa", "aaaaaa"])
        self.assertEqual(list(members(Language.of("a"), 8)), [])
        self.assertEqual(next(members(Language.every("wxyz"), 8)), "")

    def test_wrong_counts(self):
        for value in OTHER_VALUES + [9, -1, "3", [3], (8,)]:
            waiting = members(Language.of("a"), value)
            with self.assertRaises(InvalidCount) as caught:
                next(waiting)
            self.assertIs(caught.exception.value, value)

    def test_iterations_do_not_disturb_each_other(self):
        language = Language.every("ab")
        one, other = members(language, 2), members(language, 1)
        self.assertEqual([next(one), next(other), next(one), next(other)], ["", "", "a", "a"])
        self.assertEqual(list(one), ["b", "aa", "ab", "ba", "bb"])
        self.assertEqual(list(other), ["b"])


if __name__ == "__main__":
    unittest.main()
