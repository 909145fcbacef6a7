"""[11] Wide doors, the least texts that are not writable, and covers."""

import itertools
import random
import unittest

from sealedslots.covers import cover, find_unwritable, is_cover, is_wide
from sealedslots.doors import Door, is_writable
from sealedslots.languages import Language
from sealedslots.readers import Reader
from tests.cases import made, subsets
from tests.door_samples import door_of, small_doors
from tests.samples import OTHER_VALUES, accepts, random_readers, words
from tests.slow import first_unwritable, least_numbers, met_pairs, short_unwritable, silent_set, step_set


def slow_is_cover(spec, state, behind, machine, value):
    """[11] for values of the right form, with the numbers of the least machine."""
    states = spec[0]
    signs, lang, found = machine
    numbers, live = least_numbers(machine)
    some = {number: at for at, number in sorted(numbers.items(), reverse=True)}

    def is_there(number, chosen):
        return any(at == number and set(inner) <= set(chosen) for at, inner in value)

    if 0 in live and not is_there(0, silent_set(states, {state})):
        return False
    for at, chosen in value:
        if at not in live or (some[at] in found and not set(chosen) & set(behind)):
            return False
        for sign in signs:
            after = numbers[lang[some[at]][sign]]
            if after in live and not is_there(after, step_set(states, chosen, sign)):
                return False
    return True


class WideTest(unittest.TestCase):
    def test_examples(self):
        reader = Reader([{"p": (1, "a"), "q": (0, "b")}, {"p": (1, "a"), "r": (2, None)}, {"q": (0, "b")}], [])
        every = Language.every("ab")
        self.assertEqual(find_unwritable(Door(reader, 0, [0, 1], every)), None)
        self.assertEqual(find_unwritable(Door(reader, 0, [0, 2], every)), None)
        self.assertEqual(find_unwritable(Door(reader, 0, [1, 2], every)), "")
        self.assertEqual(find_unwritable(door=Door(reader, 0, [0], every)), "a")
        self.assertEqual(find_unwritable(Door(reader, 0, [2], Language.of("ab", "a", "ba", "bb"))), "bb")
        self.assertEqual(find_unwritable(Door(reader, 0, [2], Language.of("ab", "a", "ba"))), None)
        self.assertIs(is_wide(Door(reader, 0, [0, 1], every)), True)
        self.assertIs(is_wide(door=Door(reader, 0, [0], every)), False)

    def test_signs_that_the_reader_does_not_tell(self):
        reader = Reader([{"p": (0, "a")}], [])
        self.assertEqual(find_unwritable(Door(reader, 0, [0], Language.every("abc"))), "b")
        self.assertEqual(find_unwritable(Door(reader, 0, [0], Language.of("abc", "aaa", "aac", "aab"))), "aab")
        self.assertIs(is_wide(Door(reader, 0, [0], Language.of("abc", "aa", ""))), True)

    def test_special_languages_and_no_state_behind(self):
        reader = Reader([{"p": (1, None), "q": (0, "a")}, {}], [])
        for behind in [[], [0], [1], [0, 1]]:
            self.assertIsNone(find_unwritable(Door(reader, 0, behind, Language.of("a"))))
            self.assertEqual(cover(Door(reader, 0, behind, Language.of("a"))), [])
        for language in [Language.every("a"), Language.of("a", ""), Language.of("a", "", "a")]:
            self.assertEqual(find_unwritable(Door(reader, 0, [], language)), "")
            self.assertIsNone(cover(Door(reader, 0, [], language)))
        self.assertEqual(find_unwritable(Door(reader, 0, [], Language.of("a", "aa"))), "aa")
        self.assertIsNone(find_unwritable(Door(reader, 0, [1], Language.every("a"))))
        self.assertEqual(find_unwritable(Door(reader, 1, [1], Language.every("a"))), "a")
        self.assertIsNone(find_unwritable(Door(reader, 1, [1], Language.of("a", ""))))

    def test_least_texts(self):
        wide = 0
        for spec, state, behind, machine in small_doors(51, 150):
            door = door_of(spec, state, behind, machine)
            wanted = first_unwritable(spec[0], state, behind, machine)
            self.assertEqual(find_unwritable(door), wanted)
            self.assertIs(is_wide(door), wanted is None)
            if wanted is None or len(wanted) > 5:
                self.assertIsNone(short_unwritable(spec[0], state, behind, machine, 5))
            else:
                self.assertEqual(short_unwritable(spec[0], state, behind, machine, 5), wanted)
            wide += wanted is None
        self.assertGreater(wide, 150)
        self.assertLess(wide, 750)

    def test_texts_in_sequence(self):
        # Every text ahead of the least one is writable, in the order of their lengths and then of strings.
        for spec, state, behind, machine in small_doors(52, 60, told=(None, "a", "a", "b", "b"), density=0.8):
            door = door_of(spec, state, behind, machine)
            found = find_unwritable(door)
            for text in words("ab", 4):
                if text == found:
                    self.assertTrue(accepts(machine, text))
                    self.assertFalse(is_writable(door, text))
                    break
                self.assertTrue(is_writable(door, text) or not accepts(machine, text))

    def test_long_least_texts(self):
        ring = [{"p": ((state + 1) % 11, "a")} for state in range(11)]
        self.assertEqual(find_unwritable(Door(Reader(ring), 0, list(range(10)), Language.every("a"))), "a" * 10)
        six = Language("a", [{"a": (state + 1) % 6} for state in range(6)], [3])
        self.assertEqual(find_unwritable(Door(Reader(ring), 0, list(range(10)), six)), "a" * 21)
        self.assertEqual(find_unwritable(Door(Reader(ring), 1, list(range(10)), six)), "a" * 9)

    def test_repeated(self):
        for spec, state, behind, machine in small_doors(53, 20):
            door = door_of(spec, state, behind, machine)
            before = repr((door.reader, door.state, door.behind, door.language))
            first = [find_unwritable(door), is_wide(door), cover(door), is_cover(door, cover(door))]
            self.assertEqual([find_unwritable(door), is_wide(door), cover(door), is_cover(door, cover(door))], first)
            self.assertEqual(repr((door.reader, door.state, door.behind, door.language)), before)


class CoverTest(unittest.TestCase):
    def test_example(self):
        reader = Reader([{"p": (1, "a"), "q": (0, "b")}, {"p": (1, "a"), "r": (2, None)}, {"q": (0, "b")}], [])
        self.assertEqual(cover(Door(reader, 0, [0, 1], Language.every("ab"))), [(0, (0,)), (0, (1, 2))])
        self.assertEqual(cover(door=Door(reader, 0, [2], Language.of("ab", "a", "ba"))), [(0, (0,)), (1, (1, 2)), (2, (0,))])
        self.assertIsNone(cover(Door(reader, 0, [0], Language.of("ab", "a", "ba"))))

    def test_least_met_pairs(self):
        several = 0
        for spec, state, behind, machine in small_doors(54, 250, density=0.85, most_states=4, page_signs="pqrs"):
            door = door_of(spec, state, behind, machine)
            found = cover(door)
            if first_unwritable(spec[0], state, behind, machine) is not None:
                self.assertIsNone(found)
                continue
            met = met_pairs(spec[0], state, machine)
            least = [(at, tuple(sorted(chosen))) for at, chosen in met
                     if not any(other == at and inner < chosen for other, inner in met)]
            self.assertEqual(found, sorted(least))
            self.assertEqual({type(pair) for pair in found} | {type(pair[1]) for pair in found} or {tuple}, {tuple})
            self.assertIs(is_cover(door, found), True)
            several += len(met) > len(least)
        self.assertGreater(several, 20)

    def test_sorted(self):
        # Sets are sorted as tuples: (0, 2) stands ahead of (1,).
        reader = Reader([{"p": (1, "a"), "q": (0, "b"), "r": (2, "b")}, {"p": (0, "b"), "q": (2, "b"), "r": (1, "a")}, {}])
        language = Language("ab", [{"a": 1, "b": 1}, {"a": 2, "b": 2}, {"a": 2, "b": 2}], [1])
        self.assertEqual(cover(Door(reader, 0, [0, 1, 2], language)), [(0, (0,)), (1, (0, 2)), (1, (1,))])

    def test_new_lists(self):
        door = Door(Reader([{"p": (0, "a")}]), 0, [0], Language.every("a"))
        found = cover(door)
        found.append(1)
        self.assertEqual(cover(door), [(0, (0,))])

    def test_values_of_the_right_form(self):
        rng = random.Random(55)
        counts = {True: 0, False: 0}
        for spec, state, behind, machine in small_doors(56, 150, density=0.85, told=(None, "a", "a", "b", "b")):
            door = door_of(spec, state, behind, machine)
            sets = subsets(len(spec[0]))
            every = [(at, chosen) for at in range(len(door.language)) for chosen in sets]
            known = cover(door) or []
            for _ in range(12):
                value = [pair for pair in known if rng.random() < 0.9]
                value += [rng.choice(every) for _ in range(rng.choice([0, 0, 1, 2]))]
                rng.shuffle(value)
                wanted = slow_is_cover(spec, state, behind, machine, value)
                self.assertIs(is_cover(door, value), wanted, (spec, state, behind, machine, value))
                if wanted:
                    self.assertIsNone(first_unwritable(spec[0], state, behind, machine))
                counts[wanted] += 1
        self.assertGreater(min(counts.values()), 300)

    def test_all_lists_of_pairs(self):
        # One state of the language and two of the reader: all sets of pairs at once.
        pairs = [(0, ()), (0, (0,)), (0, (1,)), (0, (0, 1))]
        language, machine = Language.every("a"), ("a", [{"a": 0}], [0])
        for spec in random_readers(57, 60, most_states=2, page_signs="pq", told=(None, "a", "a")):
            for behind in [(), (0,), (1,), (0, 1)][:2 * len(spec[0])]:
                door = Door(made(spec), 0, behind, language)
                for size in range(4):
                    for value in itertools.combinations(pairs[:2 * len(spec[0])], size):
                        wanted = slow_is_cover(spec, 0, behind, machine, value)
                        self.assertIs(is_cover(door, list(value)), wanted)
                        self.assertIs(is_cover(door, list(value[::-1]) + list(value)), wanted)


class IsCoverTest(unittest.TestCase):
    def setUp(self):
        # From 0 the sign a leads to 1 and 2, from these back to 0.
        self.reader = Reader([{"p": (1, "a"), "q": (2, "a"), "r": (3, None)}, {"p": (0, "a")}, {"p": (0, "a")}, {}])
        self.language = Language("a", [{"a": 1}, {"a": 0}], [0])
        self.door = Door(self.reader, 0, [0], self.language)
        self.cover = [(0, (0, 3)), (1, (1, 2))]

    def accepted(self, value, door=None):
        self.assertIs(is_cover(door or self.door, value), True, repr(value)[:200])

    def refused(self, value, door=None):
        self.assertIs(is_cover(door or self.door, value), False, repr(value)[:200])

    def test_accepted(self):
        self.assertEqual(cover(self.door), self.cover)
        for value in [self.cover, self.cover[::-1], self.cover * 3, [(0, (0, 3)), (1, (1,))], [(0, (0,)), (1, (2,))],
                      self.cover + [(1, (1,)), (0, (0,))], self.cover + [(0, (0, 1)), (1, (0, 1, 2, 3))],
                      [(1, (1, 2, 3)), (0, (0,)), (1, (1,))]]:
            self.accepted(value)
        self.assertIs(is_cover(value=self.cover, door=self.door), True)

    def test_each_property_alone(self):
        self.refused([])
        # No pair for the start inside its silent states, though all else holds.
        self.refused([(1, (1, 2)), (0, (0, 1, 3))])
        self.refused([(1, (1, 2))])
        self.refused([(0, (0, 1, 2, 3)), (1, (1, 2))])
        # No state behind for a member state.
        self.refused([(0, (3,)), (1, (1, 2))])
        self.refused(self.cover + [(0, (1, 2))])
        self.refused([(0, (0, 3)), (1, (1, 2))], Door(self.reader, 0, [1, 2], self.language))
        # A sign that leads to no pair, or to greater sets only.
        self.refused([(0, (0, 3))])
        self.refused([(0, (0, 3)), (1, (1, 2, 3))])
        self.refused(self.cover + [(1, (0,))])
        self.refused(self.cover + [(1, ())])
        self.refused(self.cover + [(1, (3,))])

    def test_states_that_are_not_live(self):
        language = Language.of("a", "")
        door = Door(self.reader, 0, [3], language)
        self.assertEqual(cover(door), [(0, (0, 3))])
        self.accepted([(0, (0, 3))], door)
        self.accepted([(0, (3,))], door)
        for states in [(), (0,), (1, 2), (0, 1, 2, 3)]:
            self.refused([(0, (0, 3)), (1, states)], door)

    def test_language_without_texts(self):
        for behind in [[], [0]]:
            door = Door(self.reader, 0, behind, Language.of("a"))
            self.accepted([], door)
            for value in [[(0, (0, 3))], [(0, ())], [(0, (0,))], (), None]:
                self.refused(value, door)

    def test_wrong_forms(self):
        for value in OTHER_VALUES + [tuple(self.cover), {0: (0, 3), 1: (1, 2)}, dict(self.cover), set(self.cover), "", 0,
                                     iter(self.cover)]:
            self.refused(value)
        for pair in OTHER_VALUES + [[0, (0, 3)], (0, [0, 3]), (0, (3, 0)), (0, (0, 0, 3)), (0, (0, 4)), (0, (0, -1)), (0,),
                                    (0, (0, 3), 0), (2, (0,)), (-1, (0,)), (False, (0, 3)), (True, (1, 2)),
                                    (0, (False, 3)), (1, (True, 2)), (0, {0, 3}), (0, 0), (0, None), (0, (None,)),
                                    (0, ("0",)), (0, "0"), ("0", (0,)), (None, (0,)), ([0], (0,)), ({}, (0,)),
                                    (0, ([],)), (0, ({},)), (0, ((0,),)), (1, (2, 1)), (1, (1, 1))]:
            self.refused([pair])
            self.refused(self.cover + [pair])
            self.refused([pair] + self.cover)

    def test_large_covers(self):
        # Two rotations of eleven states: sets of six states lead to sets of six states.
        states = [{sign: (state, None) for state, sign in enumerate("pqrst", 1)}]
        states += [{"p": (state % 11 + 1, "a"), "q": ({1: 2, 2: 1}.get(state, state), "b")} for state in range(1, 12)]
        language = Language("ab", [{"a": (at + 1) % 6, "b": at} for at in range(6)], [0, 1, 2, 3, 4])
        door = Door(Reader(states), 0, list(range(12)), language)
        found = cover(door)
        self.assertEqual(len(found), 6 * 462)
        self.accepted(found, door)
        self.refused(found[1:], door)
        self.refused(found[:-1], door)


if __name__ == "__main__":
    unittest.main()
