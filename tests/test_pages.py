"""[6], [7] Readings, least pages and useful states, compared with slow computations."""

import itertools
import unittest

from sealedslots.errors import InvalidRow, InvalidState, InvalidWord, Unreadable
from sealedslots.pages import least_page, passed, reading, shortest_page, steps, trimmed, useful_states
from sealedslots.readers import Reader
from tests.samples import OTHER_VALUES, random_readers, read, walk, words

STATES = [{"q": (1, "begin")}, {"p": (1, "a"), "q": (2, "end"), "r": (3, None)}, {}, {"q": (1, "b"), "r": (1, "a")}]
NOT_WORDS = [value for value in OTHER_VALUES + [1, "pQ"] if value != ""]
NOT_ROWS = [value for value in OTHER_VALUES if value not in ((), ("a",))] + ["", "a", ("a", ""), ["begin"], ("a", True)]


def made(spec):
    return Reader(spec[0], spec[1], start=spec[2])


class ReadingTest(unittest.TestCase):
    def setUp(self):
        self.reader = Reader(STATES, [2])

    def unreadable(self, page):
        with self.assertRaises(Unreadable) as caught:
            reading(self.reader, page)
        return caught.exception.place

    def test_reading(self):
        self.assertEqual(reading(self.reader, "qprqq"), ("begin", "a", "b", "end"))
        self.assertEqual(reading(page="qq", reader=self.reader), ("begin", "end"))
        self.assertEqual(reading(Reader([{}], [0]), ""), ())
        self.assertEqual(reading(Reader([{"a": (0, None)}], [0]), "aaa"), ())

    def test_unreadable(self):
        for page, place in [("", 0), ("q", 1), ("p", 0), ("z", 0), ("qz", 1), ("qr", 2), ("qqq", 2), ("qprqqpp", 5),
                            ("qpp", 3)]:
            self.assertEqual(self.unreadable(page), place, page)
        self.assertRaises(Unreadable, reading, Reader([{}]), "")

    def test_long_pages(self):
        page = "q" + "prqrr" * 79 + "q"
        self.assertEqual(reading(self.reader, page), ("begin",) + ("a", "b", "a") * 79 + ("end",))
        self.assertEqual(self.unreadable(page + "q"), 397)
        self.assertEqual(self.unreadable("q" + "p" * 399), 400)
        self.assertEqual(self.unreadable("q" + "p" * 40 + "zq"), 41)
        self.assertEqual(passed(self.reader, 1, "rq" * 20 + "p" * 5), (("b",) * 20 + ("a",) * 5, 1))
        self.assertEqual(len(list(steps(self.reader, page))), 397)

    def test_passed(self):
        self.assertEqual(passed(self.reader, 1, "prq"), (("a", "b"), 1))
        self.assertEqual(passed(self.reader, 3, ""), ((), 3))
        self.assertEqual(passed(self.reader, 1, "r"), ((), 3))
        self.assertEqual(passed(word="qq", reader=self.reader, state=0), (("begin", "end"), 2))
        for state, word in [(2, "p"), (0, "p"), (0, "qz"), (1, "qq")]:
            self.assertIsNone(passed(self.reader, state, word))

    def test_steps(self):
        self.assertEqual(list(steps(self.reader, "qprqq")),
                         [(1, "begin"), (1, "a"), (3, None), (1, "b"), (2, "end")])
        self.assertEqual(list(steps(page="qrzq", reader=self.reader)), [(1, "begin"), (3, None)])
        self.assertEqual(list(steps(self.reader, "")), [])
        self.assertEqual(list(steps(self.reader, "z")), [])
        self.assertEqual(list(steps(Reader(STATES, start=3), "qqq")), [(1, "b"), (2, "end")])

    def test_wrong_words(self):
        for value in NOT_WORDS:
            for call in (lambda: reading(self.reader, value), lambda: passed(self.reader, 0, value),
                         lambda: next(steps(self.reader, value))):
                with self.assertRaises(InvalidWord) as caught:
                    call()
                self.assertIs(caught.exception.value, value)
            steps(self.reader, value)

    def test_wrong_states_come_first(self):
        for value in OTHER_VALUES + [4, "0"]:
            for word in ["q", "", 5, True, []]:
                with self.assertRaises(InvalidState) as caught:
                    passed(self.reader, value, word)
                self.assertIs(caught.exception.value, value)

    def test_all_short_words(self):
        for spec in random_readers(11, 60):
            reader = made(spec)
            for page in words("pqrs", 4):
                wanted = read(spec, page)
                if isinstance(wanted, int):
                    with self.assertRaises(Unreadable) as caught:
                        reading(reader, page)
                    self.assertEqual(caught.exception.place, wanted)
                else:
                    self.assertEqual(reading(reader, page), wanted)
                for state in range(len(reader)):
                    found = walk(spec[0], state, page)
                    self.assertEqual(passed(reader, state, page), None if isinstance(found, int) else found)
                self.check_steps(reader, spec, page)

    def check_steps(self, reader, spec, page):
        found = list(steps(reader, page))
        passing = walk(spec[0], spec[2], page)
        self.assertEqual(len(found), passing if isinstance(passing, int) else len(page))
        states = [spec[2]] + [state for state, _ in found]
        for state, sign, step in zip(states, page, found):
            self.assertEqual(spec[0][state][sign], step)


class LeastPageTest(unittest.TestCase):
    def test_examples(self):
        reader = Reader(STATES, [2])
        self.assertEqual(least_page(reader, ("begin", "b", "a", "end")), "qrqpq")
        self.assertEqual(least_page(row=("begin", "end"), reader=reader), "qq")
        for row in [(), ("begin",), ("end",), ("begin", "c", "end"), ("begin", "other", "end"), ("a",), ("begin",) * 2]:
            self.assertIsNone(least_page(reader, row))
        self.assertEqual(shortest_page(reader), "qq")
        self.assertEqual(shortest_page(reader=Reader([{}], [0])), "")
        self.assertIsNone(shortest_page(Reader(STATES)))
        self.assertIsNone(least_page(Reader(STATES), ("begin", "end")))

    def test_silent_moves_on_the_way(self):
        ring = [{"z": ((state + 1) % 12, "a" if state == 11 else None), "a": (state, None)} for state in range(12)]
        self.assertEqual(least_page(Reader(ring, [0]), ("a", "a")), "z" * 24)
        self.assertEqual(least_page(Reader(ring, [3]), ("a",)), "z" * 15)
        self.assertEqual(shortest_page(Reader(ring, [5])), "z" * 5)

    def test_ties_go_to_the_first_string(self):
        reader = Reader([{"b": (1, "x"), "a": (2, None)}, {"a": (3, None)}, {"b": (3, "x"), "c": (3, "x")}, {}], [3])
        self.assertEqual(least_page(reader, ("x",)), "ab")
        self.assertEqual(shortest_page(reader), "ab")

    def test_long_rows(self):
        reader = Reader(STATES, [2])
        row = ("begin",) + ("a", "b") * 39 + ("end",)
        self.assertEqual(least_page(reader, row), "q" + "prq" * 39 + "q")
        longer = ("begin",) + ("a", "b") * 150 + ("end",)
        self.assertEqual(reading(reader, least_page(reader, longer)), longer)
        self.assertIsNone(least_page(reader, ("begin",) + ("a",) * 79))

    def test_wrong_rows(self):
        for value in NOT_ROWS:
            with self.assertRaises(InvalidRow) as caught:
                least_page(Reader(STATES, [2]), value)
            self.assertIs(caught.exception.value, value)

    def test_all_short_pages(self):
        # A least page visits no pair of a state and a number of told names twice.
        names = ["a", "b", "go", "stop", "other"]
        for spec in random_readers(12, 250, page_signs="pq", told=(None, None, "a", "b", "go")):
            reader = made(spec)
            first = {}
            for page in words("pq", 3 * 3 - 1):
                row = read(spec, page)
                if isinstance(row, tuple):
                    first.setdefault(row, page)
            for length in range(3):
                for row in itertools.product(names, repeat=length):
                    self.assertEqual(least_page(reader, row), first.get(row), (spec, row))
            self.assertEqual(shortest_page(reader), next(iter(first.values()), None), spec)

    def test_more_signs_and_longer_rows(self):
        for spec in random_readers(13, 60, most_states=4):
            reader = made(spec)
            first = {}
            for page in words("pqr", 6):
                row = read(spec, page)
                if isinstance(row, tuple):
                    first.setdefault(row, page)
            for row, page in first.items():
                self.assertEqual(least_page(reader, row), page, (spec, row))


def slow_useful(spec):
    states, ends, start = spec
    many = len(states)
    leads = {(state, state) for state in range(many)}
    leads |= {(state, move[0]) for state in range(many) for move in states[state].values()}
    for _ in range(many):
        leads |= {(p, s) for p, q in leads for r, s in leads if q == r}
    return tuple(state for state in range(many)
                 if state == start or ((start, state) in leads and any((state, end) in leads for end in ends)))


class UsefulTest(unittest.TestCase):
    def check_trimmed(self, spec):
        reader = made(spec)
        found, kept = trimmed(reader)
        self.assertIsInstance(kept, tuple)
        self.assertEqual(kept, slow_useful(spec))
        number = {state: at for at, state in enumerate(kept)}
        states = [{sign: (number[move[0]], move[1]) for sign, move in spec[0][state].items() if move[0] in number}
                  for state in kept]
        self.assertEqual(found, Reader(states, [number[end] for end in spec[1] if end in number],
                                       start=number[spec[2]]))
        self.assertEqual(trimmed(found), (found, tuple(range(len(kept)))))
        self.assertEqual(useful_states(found), tuple(range(len(kept))))

    def test_examples(self):
        lost = {"l": (4, None)}
        reader = Reader([{"a": (2, "x")}, {"b": (1, None), "c": (0, "go")}, {"a": (5, None), "b": (4, None)},
                         {"a": (5, None)}, lost, {}], [5, 3], start=1)
        self.assertEqual(useful_states(reader), (0, 1, 2, 5))
        found, kept = trimmed(reader)
        self.assertEqual(kept, (0, 1, 2, 5))
        self.assertEqual(found, Reader([{"a": (2, "x")}, {"b": (1, None), "c": (0, "go")}, {"a": (3, None)}, {}], [3],
                                       start=1))

    def test_no_end_is_reached(self):
        states = [{"a": (1, None)}, {"a": (1, "x"), "b": (0, None), "c": (2, None)}, {}, {"a": (3, None)}]
        for ends, start, wanted in [([], 1, (1,)), ([3], 1, (1,)), ([3], 2, (2,)), ([0], 0, (0, 1)), ([0, 3], 1, (0, 1)),
                                    ([3], 3, (3,)), ([], 3, (3,))]:
            self.assertEqual(useful_states(Reader(states, ends, start=start)), wanted)
        self.assertEqual(trimmed(Reader(states, [3], start=1)), (Reader([{"a": (0, "x")}]), (1,)))
        self.assertEqual(trimmed(reader=Reader(states, start=2)), (Reader([{}]), (2,)))
        self.assertEqual(useful_states(reader=Reader(states, [0], start=0)), (0, 1))

    def test_random_readers(self):
        for spec in random_readers(14, 200, most_states=7, page_signs="pq", density=0.5):
            self.assertEqual(useful_states(made(spec)), slow_useful(spec))
            self.check_trimmed(spec)

    def test_same_readings(self):
        for spec in random_readers(15, 60, most_states=5, page_signs="pq", density=0.6):
            found, _ = trimmed(made(spec))
            for page in words("pq", 5):
                wanted = read(spec, page)
                if isinstance(wanted, tuple):
                    self.assertEqual(reading(found, page), wanted)
                else:
                    self.assertRaises(Unreadable, reading, found, page)


class RepeatingTest(unittest.TestCase):
    def test_queries_change_nothing(self):
        reader = Reader(STATES, [2])
        before = repr(reader)
        queries = [lambda: passed(reader, 1, "prq"), lambda: reading(reader, "qq"), lambda: list(steps(reader, "qq")),
                   lambda: least_page(reader, ("begin", "end")), lambda: shortest_page(reader),
                   lambda: useful_states(reader), lambda: trimmed(reader)]
        first = [query() for query in queries]
        self.assertEqual([query() for query in reversed(queries)], first[::-1])
        self.assertEqual(repr(reader), before)

    def test_iterations_do_not_disturb_each_other(self):
        reader = Reader(STATES, [2])
        one, other = steps(reader, "qpq"), steps(reader, "qrq")
        self.assertEqual([next(one), next(other), next(one), next(other)],
                         [(1, "begin"), (1, "begin"), (1, "a"), (3, None)])


if __name__ == "__main__":
    unittest.main()
