"""[43] Readers that were changed: compared with all short pages, and with slow lags."""

import random
import unittest

from sealedslots.changed import find_changed_filling, find_difference, is_pair_lags, pair_lags
from sealedslots.errors import Unreadable
from sealedslots.filling import texts_in
from sealedslots.languages import Language
from sealedslots.pages import reading
from sealedslots.readers import Reader
from sealedslots.templates import Template
from tests.cases import Case, made
from tests.changed_samples import altered, copied, delayed, random_changes
from tests.samples import OTHER_VALUES
from tests.slow_changed import differ, passing
from tests.slow_changed import is_pair_lags as slow_is_pair_lags
from tests.slow_changed import pair_lags as slow_pair_lags
from tests.slow_edits import passing_words
from tests.slow_fill import texts_of_page
from tests.template_samples import random_parts, some_machines

MOST = 6
GO, NOTHING = ("said", ("go",)), ("said", ())


def first_difference(one, other):
    for page in passing(one, other, MOST):
        if differ(one, other, page):
            return page
    return None


class SlowTest(Case):
    def test_differences(self):
        counts = {"short": 0, "long": 0, "none": 0, "lags": 0}
        for one, other in random_changes(461, 1500):
            first, second = made(one), made(other)
            found, wanted = find_difference(first, second), first_difference(one, other)
            self.assertEqual(find_difference(second, first), found)
            lags = pair_lags(first, second)
            self.assertEqual(lags is None, found is not None)
            if wanted is not None:
                self.assertEqual(found, wanted)
                counts["short"] += 1
            elif found is not None:
                self.assertGreater(len(found), MOST)
                self.assertTrue(differ(one, other, found))
                counts["long"] += 1
            else:
                # The slow check of the lags shows that there is none.
                self.assertTrue(slow_is_pair_lags(one, other, lags))
                self.assertEqual(list(lags.items()), sorted(slow_pair_lags(one, other).items()))
                self.assertIs(is_pair_lags(first, second, lags), True)
                counts["none"] += 1
                counts["lags"] += any(lag != ((), ()) for lag in lags.values())
        self.assertGreater(min(counts["short"], counts["none"], counts["lags"]), 100, counts)

    def test_long_random_pages(self):
        rng, checked = random.Random(462), 0
        for one, other in random_changes(463, 300):
            first, second = made(one), made(other)
            if find_difference(first, second) is None:
                for _ in range(20):
                    page = "".join(rng.choice("pqr") for _ in range(rng.randint(5, 30)))
                    self.assertFalse(differ(one, other, page))
                    checked += 1
        self.assertGreater(checked, 1000)

    def test_random_values(self):
        rng = random.Random(464)
        counts = {True: 0, False: 0}
        for one, other in random_changes(465, 500):
            first, second = made(one), made(other)
            lags = pair_lags(first, second)
            if lags is None:
                continue
            for _ in range(10):
                value = dict(lags)
                for _ in range(rng.choice([1, 1, 2])):
                    change = rng.choice(["drop", "lag", "add", "add", "order"])
                    if change == "drop" and value:
                        del value[rng.choice(sorted(value))]
                    elif change == "lag" and value:
                        value[rng.choice(sorted(value))] = rng.choice([(("a",), ()), ((), ("go",)), ((), ()), (("b", "other"), ())])
                    elif change == "add":
                        pair = rng.randrange(len(one[0])), rng.randrange(len(other[0]))
                        value[pair] = rng.choice([((), ()), (("a",), ()), ((), ("b",)), (("go",), ()), (("other", "z"), ())])
                    else:
                        value = {pair: value[pair] for pair in rng.sample(sorted(value), len(value))}
                wanted = slow_is_pair_lags(one, other, value)
                self.assertIs(is_pair_lags(first, second, value), wanted)
                counts[wanted] += 1
        self.assertGreater(min(counts.values()), 300, counts)

    def test_changed_fillings(self):
        rng = random.Random(466)
        counts = {"short": 0, "none": 0, "other": 0}
        machines = some_machines(467)
        for one, other in random_changes(468, 1500):
            one = one[0], one[1] or [0], one[2]
            parts, chosen = random_parts(rng, one, machines)
            template, second = Template(made(one), parts), made(other)
            found = find_changed_filling(template, second)
            pages = [page for page in passing_words(one[0], one[2], MOST) if texts_of_page(one, parts, chosen, page)]
            wanted = [page for page in pages if differ(one, other, page)]
            if wanted:
                self.assertEqual(found, wanted[0])
                counts["short"] += 1
                counts["other"] += wanted[0] != find_difference(made(one), second)
            elif found is not None:
                self.assertGreater(len(found), MOST)
                self.assertIsNotNone(texts_in(template, found))
                self.assertTrue(differ(one, other, found))
            elif pages:
                counts["none"] += 1
                if find_difference(made(one), second) is None:
                    self.assertIsNone(found)
        self.assertGreater(min(counts.values()), 40, counts)


class ExamplesTest(Case):
    EARLY = Reader([{"p": (1, "go"), "q": (0, None)}, {"p": (2, None), "q": (1, None)}, {"r": (0, "a")}], [0, 2])
    LATE = Reader([{"p": (1, None), "q": (0, None)}, {"p": (2, "go"), "q": (1, None)}, {"r": (0, "a")}], [0, 2])

    def test_the_same_is_told_at_other_moves(self):
        self.assertIsNone(find_difference(self.EARLY, self.LATE))
        found = pair_lags(self.EARLY, self.LATE)
        self.assertEqual(list(found.items()), [((0, 0), ((), ())), ((1, 1), (("go",), ())), ((2, 2), ((), ()))])
        self.assertEqual(pair_lags(self.LATE, self.EARLY)[(1, 1)], ((), ("go",)))
        self.assertIs(is_pair_lags(self.EARLY, self.LATE, found), True)
        self.assertIs(is_pair_lags(self.LATE, self.EARLY, found), False)
        self.assertIs(is_pair_lags(value=found, other=self.LATE, one=self.EARLY), True)
        self.assertEqual(reading(self.EARLY, "pqp"), reading(self.LATE, "pqp"))

    def test_equal_readers(self):
        self.assertIsNone(find_difference(self.EARLY, self.EARLY))
        self.assertEqual(set(pair_lags(other=self.EARLY, one=self.EARLY).values()), {((), ())})

    def test_readers_without_ends(self):
        one, other = Reader([{"p": (0, "a")}]), Reader([{"q": (1, "b")}, {}])
        self.assertIsNone(find_difference(one, other))
        self.assertEqual(pair_lags(one, other), {})
        self.assertIs(is_pair_lags(one, other, {}), True)
        self.assertEqual(find_difference(one, Reader([{}], [0])), "")
        self.assertEqual(find_difference(other, Reader([{"p": (1, None)}, {}], [1])), "p")
        self.assertIsNone(pair_lags(one, Reader([{}], [0])))
        self.assertIs(is_pair_lags(one, Reader([{}], [0]), {}), False)

    def test_a_long_difference(self):
        # Circles of eleven and of twelve: they end together only where both have been turned.
        one = Reader([{"p": ((state + 1) % 11, "a")} for state in range(11)], [0])
        other = Reader([{"p": ((state + 1) % 12, "a")} for state in range(12)], [0])
        self.assertEqual(find_difference(one, other), "p" * 11)
        all_ends = Reader([{"p": ((state + 1) % 11, "a")} for state in range(11)], list(range(11)))
        but_one = Reader([{"p": ((state + 1) % 12, "b" if state == 11 else "a")} for state in range(12)], list(range(12)))
        self.assertEqual(find_difference(all_ends, but_one), "p" * 12)
        # What is owed grows until the page ends at last: the first tells a name more each time round.
        slow = Reader([{"p": (1, "a"), "q": (2, None)}, {"p": (0, None), "q": (2, None)}, {"r": (2, None), "s": (3, None)}, {}], [3])
        fast = Reader([{"p": (1, None), "q": (2, None)}, {"p": (0, "a"), "q": (2, None)}, {"r": (2, None), "s": (3, None)}, {}], [3])
        self.assertEqual(find_difference(slow, fast), "pqs")

    def test_growing_lags(self):
        # Behind p the first reader tells more and more ahead; what the second tells at the end shows it.
        one = Reader([{"p": (0, "a"), "q": (1, None)}, {"r": (1, None)}], [1])
        other = Reader([{"p": (0, None), "q": (1, None)}, {"r": (1, "a")}], [1])
        self.assertEqual(find_difference(one, other), "pq")
        self.assertIsNone(find_difference(Reader([{"p": (0, "a")}, {}], [1]), Reader([{"p": (0, None)}, {}], [1])))
        self.assertEqual(pair_lags(Reader([{"p": (0, "a")}, {}], [1]), Reader([{"p": (0, None)}, {}], [1])), {})

    def test_moves_that_lead_to_no_end_do_not_matter(self):
        one = Reader([{"p": (0, "a"), "q": (1, "b")}, {"p": (1, "go")}], [0])
        other = Reader([{"p": (0, "a")}], [0])
        self.assertIsNone(find_difference(one, other))
        self.assertEqual(pair_lags(one, other), {(0, 0): ((), ())})
        self.assertIs(is_pair_lags(one, other, {(0, 0): ((), ())}), True)
        # Pairs of which no state can end may be added with any lag, also of names that no reader tells.
        for lag in [((), ()), (("z",), ()), ((), ("other", "a"))]:
            self.assertIs(is_pair_lags(one, Reader([{"p": (0, "a")}, {}], [0]), {(0, 0): ((), ()), (1, 1): lag}), True)
            self.assertIs(is_pair_lags(one, other, {(0, 0): ((), ()), (1, 0): lag}), False)
        for lag in [(("GO",), ()), ((), ("GO",)), (["a"], ()), ((), ["a"]), (("a",), ("b",)), (("a",), ("a",)), ((), "a"), ("", ()), (None, ()),
                    ((), (1,)), (("",), ()), ((),), ((), (), ())]:
            self.assertIs(is_pair_lags(one, Reader([{"p": (0, "a")}, {}], [0]), {(0, 0): ((), ()), (1, 1): lag}), False)

    def test_changed_fillings(self):
        reader = Reader([{"p": (0, "a"), "q": (1, "go"), "s": (0, "b")}, {"p": (1, "a"), "q": (1, None)}], [1])
        other = Reader([{"p": (0, "a"), "q": (1, "go"), "s": (0, "a")}, {"p": (1, "a"), "q": (1, None), "s": (1, "b")}], [1])
        self.assertEqual(find_difference(reader, other), "qs")
        for parts, wanted in [([("slot", "x", Language.every("ab")), GO], "sq"), ([("slot", "x", Language.every("a")), GO], None),
                              ([("slot", "x", Language.of("ab", "aab", "aa")), GO, NOTHING], "ppsq"), ([("said", ("other",))], None),
                              ([GO, ("slot", "x", Language.every("ab"))], None)]:
            template = Template(reader, parts)
            self.assertEqual(find_changed_filling(template, other), wanted)
            self.assertEqual(find_changed_filling(reader=other, template=template), wanted)
        # A page that is not read any more.
        self.assertEqual(find_changed_filling(Template(reader, [GO]), Reader([{}], [0])), "q")
        with self.assertRaises(Unreadable):
            reading(Reader([{}], [0]), "q")


class ValuesTest(Case):
    ONE, OTHER = ExamplesTest.EARLY, ExamplesTest.LATE
    GOOD = {(0, 0): ((), ()), (1, 1): (("go",), ()), (2, 2): ((), ())}

    def test_properties_one_by_one(self):
        self.assertIs(is_pair_lags(self.ONE, self.OTHER, self.GOOD), True)
        for pair in self.GOOD:
            self.assertIs(is_pair_lags(self.ONE, self.OTHER, {other: lag for other, lag in self.GOOD.items() if other != pair}), False)
            for lag in [(("a",), ()), ((), ("go",)), (("go", "go"), ()), (("stop",), ())]:
                self.assertIs(is_pair_lags(self.ONE, self.OTHER, {**self.GOOD, pair: lag}), False)
        self.assertIs(is_pair_lags(self.ONE, self.OTHER, {**self.GOOD, (1, 1): ((), ())}), False)
        # Both rows begin with the same names, or neither is empty.
        for lag in [(("go", "a"), ("a",)), (("go",), ("go",)), (("a",), ("b",))]:
            self.assertIs(is_pair_lags(self.ONE, self.OTHER, {**self.GOOD, (1, 1): lag}), False)
        # An end beside a state that is none.
        self.assertIs(is_pair_lags(self.ONE, self.OTHER, {**self.GOOD, (0, 1): ((), ())}), False)
        self.assertIs(is_pair_lags(self.ONE, self.OTHER, {**self.GOOD, (0, 2): ((), ())}), False)
        self.assertIs(is_pair_lags(self.ONE, self.OTHER, dict(reversed(list(self.GOOD.items())))), True)

    def test_further_pairs(self):
        one = Reader([{"p": (0, "a")}, {"q": (2, None)}, {}], [0, 2])
        other = Reader([{"p": (0, "a")}, {"q": (2, "other")}, {}], [0, 2])
        start = {(0, 0): ((), ())}
        self.assertEqual(pair_lags(one, other), start)
        self.assertIs(is_pair_lags(one, other, {**start, (1, 1): (("other",), ()), (2, 2): ((), ())}), True)
        for lag in [((), ()), (("z",), ()), ((), ("other",)), (("other", "other"), ())]:
            self.assertIs(is_pair_lags(one, other, {**start, (1, 1): lag, (2, 2): ((), ())}), False)
        self.assertIs(is_pair_lags(one, other, {**start, (1, 1): (("other",), ())}), False)

    def test_forms(self):
        good = self.GOOD
        bad = [list(good.items()), [good], (good,), {**good, (0,): ((), ())}, {**good, (0, 0, 0): ((), ())}, {**good, 0: ((), ())},
               {**good, (3, 0): ((), ())}, {**good, (0, 3): ((), ())}, {**good, (-1, 0): ((), ())}, {**good, ("0", 0): ((), ())},
               {**good, None: ((), ())}, {**good, (None, 0): ((), ())}, {(0, 0): [(), ()], (1, 1): (("go",), ()), (2, 2): ((), ())}]
        # Neither of these would be an end.
        bad += [{**good, pair: ((), ())} for pair in [(3, 1), (1, 3), (-1, 1), (1, -1), ("1", 1), (1, "1"), (None, 1), (1, None), (1, 1, 1), (1,),
                                                      ((1,), 1), (10 ** 29, 1), (1, 4)]]
        for lag in [((),), ((), (), ()), ([], ()), ((), []), (["go"], ()), (("go",), None), (("GO",), ()), (("",), ()), (("go", ""), ()),
                    ("go", ""), ("", ""), (("toolonger",), ()), ((1,), ()), ((None,), ()), ((("go",),), ()), (("go", True), ()), (("a b",), ())]:
            bad += [{**good, (1, 1): lag}, {**good, (0, 0): lag}]
        for value in OTHER_VALUES:
            bad += [{**good, (1, 1): value}, {**good, (2, 2): (value, ()) if value != () else None}, {**good, (2, 2): ((), value) if value != () else 5}]
            if value != {}:
                bad.append(value)
        for value in bad:
            self.assertIs(is_pair_lags(self.ONE, self.OTHER, value), False, value)
        self.assertIs(is_pair_lags(self.ONE, self.OTHER, {}), False)

    def test_arguments_do_not_change_and_results_are_new(self):
        value = dict(self.GOOD)
        is_pair_lags(self.ONE, self.OTHER, value)
        self.assertEqual(value, self.GOOD)
        found = pair_lags(self.ONE, self.OTHER)
        found[(0, 0)] = 5
        found.clear()
        self.assertEqual(pair_lags(self.ONE, self.OTHER), self.GOOD)
        self.assertEqual(find_difference(self.ONE, self.OTHER), find_difference(one=self.ONE, other=self.OTHER))


class SamplesTest(unittest.TestCase):
    def test_samples_agree_where_they_should(self):
        rng = random.Random(469)
        longest = 0
        for one, other in random_changes(470, 200):
            early, late = delayed(rng, one)
            again = copied(rng, late, 5)
            self.assertIsNone(find_difference(made(early), made(again)))
            found = find_difference(made(early), made(altered(rng, again)))
            longest = max(longest, 0 if found is None else len(found))
        self.assertGreater(longest, 3)


if __name__ == "__main__":
    unittest.main()
