"""[10], [11] The language of the writable texts, and the least states behind with which a door is wide."""

import itertools
import unittest

from sealedslots.covers import is_wide, least_behind, writable_texts
from sealedslots.doors import Door, is_writable
from sealedslots.errors import InvalidSigns, InvalidState, InvalidStates, TooLarge
from sealedslots.languages import Language, least_text
from sealedslots.readers import Reader
from tests.cases import Case, made, no_sets, no_states, subsets
from tests.samples import OTHER_VALUES, class_count, random_machines, random_readers, words
from tests.slow import first_unwritable, last_set, silent_set, step_set

NOT_STATES, NOT_SETS = no_states(3), no_sets(3)
NOT_SIGNS = [value for value in OTHER_VALUES] + ["", "ba", "aa", "aba", "abcde", "a b", ["a", "b"], ("a",), 1]


def set_machine(spec, state, behind, signs):
    """The machine of all sets of states behind texts, as samples has machines."""
    numbers = {frozenset(silent_set(spec[0], {state})): 0}
    waiting, states = list(numbers), []
    while waiting:
        chosen = waiting.pop(0)
        states.append({})
        for sign in signs:
            after = frozenset(step_set(spec[0], chosen, sign))
            if after not in numbers:
                numbers[after] = len(numbers)
                waiting.append(after)
            states[-1][sign] = numbers[after]
    return signs, states, [number for chosen, number in numbers.items() if chosen & set(behind)]


class WritableTextsTest(Case):
    def test_examples(self):
        reader = Reader([{"p": (1, "a"), "q": (0, "b")}, {"p": (1, "a"), "r": (2, None)}, {"q": (0, "b")}], [])
        self.assertEqual(writable_texts(reader, 0, [0, 1, 2], "ab"), Language.every("ab"))
        self.assertEqual(writable_texts(reader, 0, [], "ab"), Language.of("ab"))
        self.assertEqual(writable_texts(reader, 0, (1,), "a"), Language("a", [{"a": 1}, {"a": 1}], [1]))
        self.assertEqual(writable_texts(signs="ab", behind=[2], state=0, reader=reader),
                         Language("ab", [{"a": 1, "b": 0}, {"a": 1, "b": 0}], [1]))
        self.assertEqual(writable_texts(reader, 0, [0, 1, 2], "xyz"), Language.of("xyz", ""))
        self.assertEqual(writable_texts(reader, 0, [1, 2], "xyz"), Language.of("xyz"))
        self.assertEqual(writable_texts(reader, 2, [0], "ab"), writable_texts(reader, 2, [0], "ab"))
        self.assertEqual(least_text(writable_texts(reader, 2, [0], "abz")), "b")

    def test_all_short_texts(self):
        counts = {True: 0, False: 0}
        readers = random_readers(61, 120, most_states=4, told=(None, "a", "a", "b", "b", "go"), density=0.8)
        readers += random_readers(62, 60, most_states=5, page_signs="pqrst", told=(None, "a", "b", "b"))
        for at, spec in enumerate(readers):
            reader = made(spec)
            behind = [state for state in range(len(reader)) if (at + state) % 3 != 1][::-1]
            for signs in ["ab", "a", "abz", "bcz"]:
                machine = set_machine(spec, spec[2], behind, signs)
                large = class_count(machine) > 6
                counts[large] += 1
                if large:
                    with self.assertRaises(TooLarge) as caught:
                        writable_texts(reader, spec[2], behind, signs)
                    self.assertEqual((caught.exception.kind, caught.exception.limit), ("language states", 6))
                    continue
                found = writable_texts(reader, spec[2], behind, signs)
                self.assertEqual((found.signs, len(found)), (signs, class_count(machine)))
                door = Door(reader, spec[2], behind, Language.every("a"))
                for text in words(signs, 4):
                    self.assertIs(text in found, is_writable(door, text))
                    self.assertIs(text in found, bool(last_set(spec[0], spec[2], text) & set(behind)))
        self.assertGreater(min(counts.values()), 5)

    def test_exactly_six_states(self):
        ring = [{"p": ((state + 1) % 12, "a")} for state in range(12)]
        for many in range(1, 13):
            # Only the states below many are there; texts are counted by their length.
            reader = Reader([{"p": ((state + 1) % many, "a")} for state in range(many)])
            if many <= 6:
                self.assertEqual(len(writable_texts(reader, 0, [0], "a")), many)
            else:
                self.assertRaises(TooLarge, writable_texts, reader, 0, [0], "a")
            if many <= 5:
                # The other sign needs a state more, from which no text is writable.
                self.assertEqual(len(writable_texts(reader, 0, [0], "ab")), many + 1)
            else:
                self.assertRaises(TooLarge, writable_texts, reader, 0, [0], "ab")
        self.assertEqual(len(writable_texts(Reader(ring), 5, [0, 6], "a")), 6)
        self.assertEqual(len(writable_texts(Reader(ring), 0, [1, 5, 9], "a")), 4)

    def test_many_sets(self):
        # The twelfth sign from the end decides: all sets of states are met.
        states = [{"p": (0, "a"), "q": (0, "b"), "r": (1, "a")}]
        states += [{"p": (state + 1, "a"), "q": (state + 1, "b")} for state in range(1, 11)] + [{}]
        with self.assertRaises(TooLarge):
            writable_texts(Reader(states), 0, [11], "ab")
        self.assertEqual(writable_texts(Reader(states), 0, list(range(12)), "ab"), Language.every("ab"))

    def test_wrong_values(self):
        reader = Reader([{}, {}, {}])
        for value in NOT_STATES:
            self.fails(InvalidState, value, lambda: writable_texts(reader, value, [0], "a"))
            self.fails(InvalidState, value, lambda: writable_texts(reader, value, None, None))
        for value in NOT_SETS:
            self.fails(InvalidStates, value, lambda: writable_texts(reader, 0, value, "a"))
            self.fails(InvalidStates, value, lambda: writable_texts(reader, 0, value, "ba"))
        for value in NOT_SIGNS:
            if value not in ("a", "ab"):
                self.fails(InvalidSigns, value, lambda: writable_texts(reader, 0, [0], value))
        ring = Reader([{"p": ((state + 1) % 12, "a")} for state in range(12)])
        self.fails(InvalidSigns, "", lambda: writable_texts(ring, 0, [0], ""))


class LeastBehindTest(Case):
    def test_examples(self):
        reader = Reader([{"p": (1, "a"), "q": (0, "b")}, {"p": (1, "a"), "r": (2, None)}, {"q": (0, "b")}], [])
        self.assertEqual(least_behind(reader, 0, Language.every("ab")), [(0, 1), (0, 2)])
        self.assertEqual(least_behind(reader, 0, Language.of("ab", "a", "ba")), [(1,), (2,)])
        self.assertEqual(least_behind(language=Language.of("ab", ""), state=1, reader=reader), [(1,), (2,)])
        self.assertEqual(least_behind(reader, 0, Language.of("ab")), [()])
        self.assertEqual(least_behind(reader, 0, Language.every("abc")), [])
        self.assertEqual(least_behind(reader, 2, Language.of("ab", "a")), [])

    def test_all_sets(self):
        machines = [("ab", [{"a": 0, "b": 0}], []), ("ab", [{"a": 1, "b": 1}, {"a": 1, "b": 1}], [0])]
        machines += [machine for machine in random_machines(63, 60) if class_count(machine) <= 6]
        several = 0
        readers = random_readers(64, 150, most_states=4, page_signs="pqrs", told=(None, "a", "a", "b", "b"), density=0.85)
        for at, spec in enumerate(readers):
            reader = made(spec)
            for machine in [machines[at % 2], machines[at % len(machines)], machines[7 * at % len(machines)]]:
                language = Language(*machine)
                wide = [chosen for chosen in subsets(len(reader))
                        if first_unwritable(spec[0], spec[2], chosen, machine) is None]
                least = [chosen for chosen in wide if not any(set(inner) < set(chosen) for inner in wide)]
                found = least_behind(reader, spec[2], language)
                self.assertEqual(found, sorted(least))
                self.assertEqual(least_behind(reader, spec[2], language), found)
                several += len(found) > 1
                for chosen in found:
                    self.assertIs(is_wide(Door(reader, spec[2], chosen, language)), True)
        self.assertGreater(several, 40)

    def test_new_lists(self):
        reader = Reader([{"p": (0, "a")}])
        found = least_behind(reader, 0, Language.every("a"))
        found.append(1)
        self.assertEqual(least_behind(reader, 0, Language.every("a")), [(0,)])

    def test_large_readers(self):
        # All sets of six of eleven states are met: each state behind needs six others.
        states = [{sign: (state, "a") for state, sign in enumerate("pqrstu", 1)}]
        states += [{"p": (state % 11 + 1, "a"), "q": ({1: 2, 2: 1}.get(state, state), "b")} for state in range(1, 12)]
        language = Language("ab", [{"a": 1, "b": 0}, {"a": 1, "b": 1}], [1])
        wanted = list(itertools.combinations(range(1, 12), 6))
        found = least_behind(Reader(states), 0, Language("ab", [{"a": 1, "b": 2}, {"a": 1, "b": 1}, {"a": 2, "b": 2}], [1]))
        self.assertEqual(found, sorted(wanted))
        self.assertEqual(least_behind(Reader(states), 0, language), [])

    def test_wrong_values(self):
        for value in NOT_STATES:
            self.fails(InvalidState, value, lambda: least_behind(Reader([{}, {}, {}]), value, Language.every("a")))


if __name__ == "__main__":
    unittest.main()
