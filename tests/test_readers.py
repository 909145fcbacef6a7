"""[5] Readers: how they are made, what they are asked, and the errors."""

import collections
import copy
import unittest

from sealedslots.errors import InvalidReader, InvalidState
from sealedslots.readers import Reader
from tests.samples import OTHER_VALUES, random_readers

STATES = [{"q": (1, "begin")}, {"r": (3, None), "p": (1, "a"), "q": (2, "end")}, {}, {"r": (1, "a"), "q": (1, "b")}]


def with_signs(signs):
    return [{sign: (0, None) for sign in signs}]


def telling(names):
    """States that tell these names, with few page signs."""
    states = [{} for _ in range(3)]
    for at, name in enumerate(names):
        states[at % 3]["abcdef"[at // 3]] = (0, name)
    return states


class MakingTest(unittest.TestCase):
    def fails(self, problem, place, *given, **named):
        with self.assertRaises(InvalidReader) as caught:
            Reader(*given, **named)
        self.assertEqual((caught.exception.problem, caught.exception.place), (problem, place), given)

    def test_states(self):
        for value in OTHER_VALUES:
            if value not in ([[]], ([],), ["a"], ("a",)):
                self.fails("states", None, value)
        self.fails("states", None, [])
        self.fails("states", None, ())
        self.fails("states", None, {0: {}})
        self.fails("states", None, [{}] * 13)
        self.fails("states", None, ({},) * 13)
        self.fails("states", None, [5] * 13)
        self.assertEqual(len(Reader([{}])), 1)
        self.assertEqual(len(Reader([{}] * 12)), 12)
        self.assertEqual(len(Reader(({},) * 12)), 12)
        self.assertEqual(Reader.MAX_STATES, 12)
        self.assertEqual(Reader([{}]).MAX_STATES, 12)

    def test_a_state(self):
        for value in [None, [], (), "a", 1, True, [("a", (0, None))], {"a"}, b""]:
            self.fails("state", 0, [value])
            self.fails("state", 1, [{}, value])
        for sign in ["", "ab", "A", "1", 1, True, None, ("a",), b"a"]:
            self.fails("state", 1, [{}, {sign: (0, None)}])
        for move in [None, 0, [0, None], (), (0,), (0, None, None), "ab", {0: None}, (2, None), (-1, None),
                     (True, None), (False, None), (None, None), ("0", None), ([], None), ((), None), (0, ""),
                     (0, "A"), (0, "abcdefghi"), (0, 1), (0, True), (0, False), (0, []), (0, ()), (0, ("a",)),
                     (0, "a b"), (0, b"a"), (0, {}), (None, 0)]:
            self.fails("state", 1, [{}, {"a": move}])
            self.fails("state", 0, [{"b": (0, None), "a": move}, {}])
        self.fails("state", 1, [{}, {"a": (0, 1)}, {"a": (0, 1)}])
        for told in [None, "a", "z", "ab", "abcdefgh"]:
            self.assertEqual(Reader([{}, {"a": (1, told)}]).move(1, "a"), (1, told))

    def test_ends(self):
        for value in [None, 0, True, "", {}, {0}, {0: 1}, [2], [-1], [0, 0], (1, 1), [True], [False], [0, False],
                      ["0"], [None], [[]], [{}], [(0,)], [0, 2], b"", range(1)]:
            self.fails("ends", None, [{}, {}], value)
            self.fails("ends", None, [{}, {}], ends=value)
        for value, wanted in [([], ()), ((), ()), ([1, 0], (0, 1)), ((1,), (1,)), ((0, 1), (0, 1))]:
            self.assertEqual(Reader([{}, {}], value).ends(), wanted)
            self.assertEqual(Reader([{}, {}], ends=value).ends(), wanted)
        self.assertEqual(Reader([{}, {}]).ends(), ())

    def test_start(self):
        for value in [None, 2, -1, True, False, "0", [], [0], (), {}, b"", 10 ** 29]:
            self.fails("start", None, [{}, {}], start=value)
        self.assertEqual(Reader([{}, {}], start=1).start, 1)
        self.assertEqual(Reader([{}, {}]).start, 0)
        with self.assertRaises(TypeError):
            Reader([{}, {}], [], 1)

    def test_numbers_of_names(self):
        self.fails("signs", None, with_signs("abcdefg"))
        self.fails("signs", None, [{"a": (0, None), "b": (0, None)}, with_signs("cdefg")[0]])
        self.assertEqual(Reader(with_signs("fedcba")).page_signs(), "abcdef")
        self.fails("texts", None, telling("abcde"))
        self.assertEqual(Reader(telling("zabc")).text_signs(), "abcz")
        marks = ["aa", "ab", "ac", "ad", "ae", "zzzzzzzz"]
        self.fails("marks", None, telling(marks + ["zz"]))
        self.assertEqual(Reader(telling(marks[::-1])).marks(), marks)
        self.assertEqual(len(Reader(telling(marks + list("abcd")))), 3)

    def test_several_faults(self):
        many = [{sign: (0, told) for sign, told in zip("abcdefg", "vwxyz")}, {"g": (0, None), "f": (0, None)}]
        self.fails("states", None, (), 5, start=5)
        self.fails("state", 0, [{"a": None}, 5], 5, start=5)
        self.fails("ends", None, many, [2], start=True)
        self.fails("start", None, many, [1], start=True)
        self.fails("signs", None, many, [1])
        marks = ["aa", "ab", "ac", "ad", "ae", "af", "ag"]
        self.fails("texts", None, telling(marks + list("abcde")))
        self.fails("marks", None, telling(marks + list("abcd")))

    def test_of(self):
        made = Reader.of(*STATES, ends=[2], start=1)
        self.assertEqual(made, Reader(STATES, [2], start=1))
        self.assertEqual(Reader.of({}), Reader([{}]))
        self.assertIs(type(made), Reader)
        for given, named, problem, place in [((), {}, "states", None), (({},) * 13, {}, "states", None),
                                             (({}, []), {}, "state", 1), (({},), {"ends": [1]}, "ends", None),
                                             (({},), {"start": 1}, "start", None),
                                             (tuple(with_signs("abcdefg")), {}, "signs", None)]:
            with self.assertRaises(InvalidReader) as caught:
                Reader.of(*given, **named)
            self.assertEqual((caught.exception.problem, caught.exception.place), (problem, place))
        with self.assertRaises(InvalidReader):
            Reader.of([{}])


class AskingTest(unittest.TestCase):
    def setUp(self):
        self.reader = Reader(states=STATES, ends=(2,), start=0)

    def test_moves_of_all_states(self):
        for state, moves in enumerate(STATES):
            for sign in "abpqrz":
                self.assertEqual(self.reader.move(state, sign), moves.get(sign))
                self.assertEqual(self.reader.move(sign=sign, state=state), moves.get(sign))
            wanted = [(sign, *moves[sign]) for sign in sorted(moves)]
            self.assertEqual(list(self.reader.moves(state)), wanted)
            self.assertEqual(list(self.reader.moves(state=state)), wanted)

    def test_names(self):
        self.assertEqual(self.reader.page_signs(), "pqr")
        self.assertEqual(self.reader.text_signs(), "ab")
        self.assertEqual(self.reader.marks(), ["begin", "end"])
        empty = Reader([{}])
        self.assertEqual((empty.page_signs(), empty.text_signs(), empty.marks()), ("", "", []))

    def test_states(self):
        self.assertEqual(len(self.reader), 4)
        for state in range(4):
            self.assertIs(state in self.reader, True)
        for value in OTHER_VALUES + [4, "0", (0,)]:
            self.assertIs(value in self.reader, False)

    def test_invalid_state(self):
        for value in OTHER_VALUES + [4, "0", (0,)]:
            with self.assertRaises(InvalidState) as caught:
                self.reader.move(value, "q")
            self.assertIs(caught.exception.value, value)
            waiting = self.reader.moves(value)
            with self.assertRaises(InvalidState) as caught:
                next(waiting)
            self.assertIs(caught.exception.value, value)

    def test_repr(self):
        self.assertEqual(repr(self.reader), "Reader([{'q': (1, 'begin')}, {'p': (1, 'a'), 'q': (2, 'end'), "
                         "'r': (3, None)}, {}, {'q': (1, 'b'), 'r': (1, 'a')}], (2,), start=0)")
        self.assertEqual(repr(Reader(({}, {}), [1, 0], start=1)), "Reader([{}, {}], (0, 1), start=1)")
        for spec in random_readers(1, 50):
            reader = Reader(spec[0], spec[1], start=spec[2])
            self.assertEqual(eval(repr(reader)), reader)

    def test_equality(self):
        self.assertEqual(self.reader, Reader(tuple(dict(reversed(state.items())) for state in STATES), [2]))
        for other in [Reader(STATES, []), Reader(STATES, [2], start=1), Reader(STATES + [{}], [2]),
                      Reader([{"q": (1, None)}] + STATES[1:], [2]), Reader([{}] + STATES[1:], [2])]:
            self.assertNotEqual(self.reader, other)
            self.assertFalse(self.reader == other)
        self.assertEqual(Reader([{}, {}, {}], [2, 0]), Reader([{}, {}, {}], (0, 2)))

    def test_other_kinds_are_not_equal(self):
        for value in OTHER_VALUES + [STATES, (STATES, (2,), 0), repr(self.reader), 4]:
            self.assertIs(self.reader == value, False)
            self.assertIs(self.reader != value, True)


class IndependenceTest(unittest.TestCase):
    def test_arguments_are_copied_and_not_changed(self):
        states, ends = copy.deepcopy(STATES), [2, 0]
        reader = Reader(states, ends)
        self.assertEqual((states, [list(state) for state in states]), (STATES, [list(state) for state in STATES]))
        self.assertEqual(ends, [2, 0])
        before = repr(reader)
        states[0]["p"] = (0, "x")
        states[1].clear()
        states.append({})
        ends.append(1)
        self.assertEqual(repr(reader), before)
        self.assertEqual((len(reader), reader.page_signs(), reader.ends()), (4, "pqr", (0, 2)))

    def test_other_kinds_of_tuples_and_dicts_become_plain(self):
        move = collections.namedtuple("Move", "after told")
        reader = Reader([collections.OrderedDict(b=move(0, "x"), a=move(1, None)), {}], [1])
        self.assertEqual(repr(reader), "Reader([{'a': (1, None), 'b': (0, 'x')}, {}], (1,), start=0)")

    def test_one_dict_for_several_states(self):
        state = {"a": (1, None)}
        reader = Reader([state, state])
        state["b"] = (0, None)
        self.assertEqual([list(reader.moves(0)), list(reader.moves(1))], [[("a", 1, None)]] * 2)

    def test_what_is_returned_is_new(self):
        reader = Reader(STATES, [2])
        reader.marks().append("more")
        self.assertEqual(reader.marks(), ["begin", "end"])
        for query in (reader.marks, reader.ends, reader.page_signs, reader.text_signs, lambda: list(reader.moves(1))):
            self.assertEqual(query(), query())
        self.assertIsNot(reader.marks(), reader.marks())

    def test_readers_do_not_disturb_each_other(self):
        one, other = Reader(STATES, [2]), Reader([{"z": (0, "zz")}], [0])
        self.assertEqual((one.marks(), other.marks()), (["begin", "end"], ["zz"]))
        first, second = one.moves(1), one.moves(1)
        self.assertEqual([next(first), next(second), next(first)], [("p", 1, "a"), ("p", 1, "a"), ("q", 2, "end")])
        self.assertEqual(list(other.moves(0)), [("z", 0, "zz")])
        self.assertEqual(next(second), ("q", 2, "end"))

    def test_a_failed_call_changes_nothing(self):
        reader = Reader(STATES, [2])
        before = repr(reader)
        with self.assertRaises(InvalidState):
            reader.move(4, "q")
        with self.assertRaises(InvalidState):
            list(reader.moves(True))
        self.assertEqual(repr(reader), before)


if __name__ == "__main__":
    unittest.main()
