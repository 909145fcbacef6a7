"""[33] Nested readers: compared with slow walks through the triples."""

import itertools
import random
import unittest

from sealedslots.doors import Door, is_writable
from sealedslots.errors import InvalidState, InvalidWord, SignsDiffer, TooLarge, Unreadable
from sealedslots.languages import Language
from sealedslots.nested import Nesting
from sealedslots.pages import reading
from sealedslots.readers import Reader
from tests.cases import NOT_WORDS, Case, made, no_states
from tests.nested_samples import random_nestings
from tests.samples import OTHER_VALUES, read, words
from tests.slow_nested import nested_states, outside_moves, text_lasts, useful_triples


def door_of(nesting):
    outer, state, behind, machine, _ = nesting
    return Door(made(outer), state, behind, Language(*machine))


def has_signs(nesting):
    told = {move[1] for moves in nesting[0][0] for move in moves.values()}
    return all(sign in told for moves in nesting[4][0] for sign in moves)


class SlowTest(Case):
    def test_states_and_moves(self):
        sizes, large = {}, 0
        for nesting in random_nestings(321, 700, most_states=4, inner_states=4):
            door, inner = door_of(nesting), made(nesting[4])
            triples = useful_triples(nesting)
            if not has_signs(nesting):
                continue
            if len(triples) > 12:
                with self.assertRaises(TooLarge) as caught:
                    Nesting(door, inner)
                self.assertEqual((caught.exception.kind, caught.exception.limit), ("states", 12))
                large += 1
                continue
            found = Nesting(door, inner)
            states, ends = nested_states(nesting)
            self.assertEqual(found.reader, Reader(states, ends))
            self.assertEqual([found.triple(number) for number in range(len(found))], triples)
            self.assertEqual((found.door, found.inner, len(found)), (door, inner, len(states)))
            sizes[len(found)] = sizes.get(len(found), 0) + 1
        self.assertGreater(large, 20)
        self.assertGreater(min(sizes[many] for many in range(1, 13)), 3, sizes)

    def test_what_is_told_outside(self):
        readable, unreadable = 0, 0
        for nesting in random_nestings(322, 120):
            door, inner = door_of(nesting), made(nesting[4])
            triples = useful_triples(nesting)
            if not has_signs(nesting) or len(triples) > 12:
                continue
            found = Nesting(door, inner)
            states, ends = nested_states(nesting)
            for page in words("pqrs", 4):
                wanted = read((states, ends, 0), page)
                if isinstance(wanted, int):
                    with self.assertRaises(Unreadable) as caught:
                        found.told_outside(page)
                    self.assertEqual(caught.exception.place, wanted)
                    unreadable += 1
                    continue
                text = found.told_outside(page)
                told, _ = outside_moves(nesting, triples, 0, page)
                self.assertEqual(text, "".join(sign for sign, _ in told))
                self.assertIn(text, door.language)
                self.assertIs(is_writable(door, text), True)
                self.assertEqual(reading(inner, text), reading(found.reader, page))
                readable += 1
        self.assertGreater(min(readable, unreadable), 2000)

    def test_texts_that_are_told(self):
        # A text is the page of the inner reader, and written through the door, exactly if some page tells it outside.
        both = 0
        for nesting in random_nestings(323, 60):
            door, inner = door_of(nesting), made(nesting[4])
            if not has_signs(nesting) or len(useful_triples(nesting)) > 12:
                continue
            triples = useful_triples(nesting)
            _, ends = nested_states(nesting)
            for text in words("ab", 3):
                wanted = text in door.language and is_writable(door, text) and not isinstance(read(nesting[4], text), int)
                self.assertEqual(bool(text_lasts(nesting, triples, text) & set(ends)), wanted)
                both += wanted
        self.assertGreater(both, 60)


class ExamplesTest(Case):
    def chain(self, many):
        """A nesting with so many useful triples, one for each state of the inner reader."""
        inner = Reader([{"a": (state + 1, "a")} for state in range(many - 1)] + [{}], [many - 1])
        return Door(Reader([{"p": (0, "a"), "q": (0, "b")}]), 0, [0], Language.every("ab")), inner

    def circle(self, outer, inner, members):
        """A nesting of circles of so many states; each triple is met and useful if the lengths fit."""
        language = Language("a", [{"a": (state + 1) % members} for state in range(members)], [0])
        reader = Reader([{"p": ((state + 1) % outer, "a")} for state in range(outer)])
        return Door(reader, 0, [0], language), Reader([{"a": ((state + 1) % inner, "go")} for state in range(inner)], [0])

    def test_exactly_twelve_triples_and_more(self):
        self.assertEqual(len(Nesting(*self.chain(12))), 12)
        for outer, inner, members, wanted in [(1, 12, 1, 12), (12, 1, 1, 12), (3, 4, 1, 12), (4, 6, 3, 12), (1, 2, 6, 6), (2, 7, 1, 14),
                                              (1, 5, 3, 15), (5, 3, 1, 15), (12, 12, 6, 12), (12, 11, 1, 132)]:
            if wanted <= 12:
                self.assertEqual(len(Nesting(*self.circle(outer, inner, members))), wanted)
                continue
            with self.assertRaises(TooLarge) as caught:
                Nesting(*self.circle(outer, inner, members))
            self.assertEqual((caught.exception.kind, caught.exception.limit), ("states", 12))

    def test_thirteen_triples(self):
        # Ahead of the circle of twelve triples there is one more state of the outer reader.
        reader = Reader([{"p": (1, "a")}] + [{"p": (state % 4 + 1, "a")} for state in range(1, 5)])
        door = Door(reader, 0, [1, 2, 3, 4], Language.every("a"))
        three = Reader([{"a": ((state + 1) % 3, "go")} for state in range(3)], [0])
        with self.assertRaises(TooLarge):
            Nesting(door, three)
        self.assertEqual(len(Nesting(Door(reader, 1, [1, 2, 3, 4], Language.every("a")), three)), 12)

    def test_many_triples_that_are_not_useful(self):
        outer = Reader([{"p": (state + 1, "a"), "q": (state, None)} for state in range(11)] + [{}])
        inner = Reader([{"a": (state + 1, "a")} for state in range(11)] + [{}], [2])
        found = Nesting(Door(outer, 0, list(range(12)), Language.every("a")), inner)
        self.assertEqual([found.triple(state) for state in range(len(found))], [(0, 0, 0), (1, 0, 1), (2, 0, 2)])
        self.assertEqual(found.told_outside("qpqqpq"), "aa")
        self.assertEqual(reading(found.reader, "qpqqpq"), ("a", "a"))

    def test_only_the_start_is_useful(self):
        outer = Reader([{"p": (1, "a"), "q": (0, None), "r": (0, "a"), "s": (0, "go")}, {"p": (0, "a")}])
        inner = Reader([{"a": (0, "b")}])
        found = Nesting(Door(outer, 0, [0], Language.every("a")), inner)
        # The start is a state even if no end is reached; of its moves those stay that lead to it again.
        self.assertEqual(found.reader, Reader([{"q": (0, None), "r": (0, "b")}]))
        self.assertEqual((len(found), found.triple(0)), (1, (0, 0, 0)))
        with self.assertRaises(Unreadable) as caught:
            found.told_outside("qrr")
        self.assertEqual(caught.exception.place, 3)
        empty = Nesting(Door(outer, 1, [0, 1], Language("a", [{"a": 0}], [])), Reader([{"a": (0, "b")}], [0]))
        self.assertEqual(empty.reader, Reader([{}]))
        self.assertEqual(empty.triple(0), (1, 0, 0))

    def test_marks_and_signs_outside_the_language_stop_a_page(self):
        outer = Reader([{"p": (0, "a"), "q": (0, "b"), "r": (0, "go"), "s": (0, None)}])
        inner = Reader([{"a": (0, "go"), "b": (0, "stop")}], [0])
        found = Nesting(Door(outer, 0, [0], Language.every("a")), inner)
        self.assertEqual(found.reader, Reader([{"p": (0, "go"), "s": (0, None)}], [0]))
        for page, place in [("q", 0), ("pq", 1), ("spr", 2), ("z", 0)]:
            with self.assertRaises(Unreadable) as caught:
                found.told_outside(page)
            self.assertEqual(caught.exception.place, place)

    def test_numbers_in_the_order_of_words(self):
        # The shortest word counts first, then the order of strings: r leads to 1, p and then q to the others.
        outer = Reader([{"p": (1, None), "r": (3, "a")}, {"q": (2, None), "p": (3, "a")}, {"p": (3, "a")}, {"s": (2, None), "q": (1, None)}])
        inner = Reader([{"a": (1, "b")}, {}], [1])
        found = Nesting(Door(outer, 0, [3], Language.every("a")), inner)
        self.assertEqual([found.triple(state) for state in range(len(found))], [(0, 0, 0), (1, 0, 0), (3, 0, 1), (2, 0, 0)])

    def test_equality(self):
        door, inner = self.chain(3)
        again, other = self.chain(3), self.chain(4)
        found = Nesting(door, inner)
        self.assertTrue(found == Nesting(*again) and not found != Nesting(*again))
        self.assertFalse(found == Nesting(*other) or found == Nesting(Door(door.reader, 0, [], door.language), inner))
        self.assertFalse(found == Nesting(Door(door.reader, 0, [0], Language.every("a")), inner))
        for value in OTHER_VALUES + [door, inner, found.reader]:
            self.assertFalse(found == value)
            self.assertTrue(found != value)

    def test_names_of_the_arguments(self):
        door, inner = self.chain(3)
        found = Nesting(inner=inner, door=door)
        self.assertEqual((found.triple(state=1), found.told_outside(page="pp")), ((0, 0, 1), "aa"))


class ErrorsTest(Case):
    def test_signs_come_before_sizes(self):
        outer = Reader([{"p": ((state + 1) % 12, "b"), "q": (state, "go")} for state in range(12)])
        inner = Reader([{"b": ((state + 1) % 11, None), "c": (state, None)} for state in range(11)], [0])
        door = Door(outer, 0, list(range(12)), Language.every("b"))
        with self.assertRaises(SignsDiffer) as caught:
            Nesting(door, inner)
        self.assertEqual((caught.exception.one, caught.exception.other), ("b", "bc"))
        with self.assertRaises(TooLarge):
            Nesting(door, Reader([{"b": ((state + 1) % 11, None)} for state in range(11)], [0]))
        # A sign of the outer reader that the inner one does not read is no error, and neither is a sign of the language.
        outer = Reader([{"p": (0, "a"), "q": (0, "c")}])
        self.assertEqual(len(Nesting(Door(outer, 0, [0], Language.every("abd")), Reader([{"c": (0, "x")}], [0]))), 1)
        self.assertEqual(len(Nesting(Door(outer, 0, [0], Language.every("b")), Reader([{}], [0]))), 1)

    def test_random_signs(self):
        differ = 0
        for nesting in random_nestings(324, 200, page_signs="abc"):
            if has_signs(nesting):
                continue
            door, inner = door_of(nesting), made(nesting[4])
            with self.assertRaises(SignsDiffer) as caught:
                Nesting(door, inner)
            self.assertEqual((caught.exception.one, caught.exception.other), (door.reader.text_signs(), inner.page_signs()))
            differ += 1
        self.assertGreater(differ, 50)

    def test_states_and_words(self):
        found = Nesting(Door(Reader([{"p": (0, "a")}]), 0, [0], Language.every("a")), Reader([{"a": (1, "x")}, {}], [1]))
        for value in no_states(2):
            self.fails(InvalidState, value, lambda: found.triple(value))
        for value in NOT_WORDS:
            self.fails(InvalidWord, value, lambda: found.told_outside(value))


class RepeatedTest(unittest.TestCase):
    def test_repeated_queries(self):
        rng = random.Random(325)
        for nesting in itertools.islice(filter(has_signs, random_nestings(326, 60)), 40):
            if len(useful_triples(nesting)) > 12:
                continue
            door, inner = door_of(nesting), made(nesting[4])
            before = repr((door.reader, door.language, inner))
            found, again = Nesting(door, inner), Nesting(door, inner)
            self.assertTrue(found == again)
            for state in rng.sample(range(len(found)), len(found)):
                self.assertEqual(found.triple(state), again.triple(state))
            self.assertEqual(repr((door.reader, door.language, inner)), before)


if __name__ == "__main__":
    unittest.main()
