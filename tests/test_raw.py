"""[26] Signs that go raw: compared with all sets of the signs."""

import itertools
import random
import unittest

from sealedslots.doors import Door
from sealedslots.errors import InvalidSigns
from sealedslots.given import GivenWriter, failure
from sealedslots.languages import Language
from sealedslots.quoting import goes_raw, raw_refusals, raw_sets
from sealedslots.readers import Reader
from tests.cases import Case, made
from tests.samples import OTHER_VALUES, accepts, class_count, random_machines, random_readers
from tests.slow_given import first_failing, slow_failure

MOST = 6


def raw_spec(signs):
    return "", {(0, sign): (0, sign) for sign in signs}, {0: ""}, 1


def raw_doors(seed, count):
    """Doors of readers that often tell a sign by itself: (spec, state, behind, machine)."""
    rng = random.Random(seed)
    machines = [machine for signs in ["a", "ab", "abc"] for machine in random_machines(seed, 40, signs=signs)
                if class_count(machine) <= 6]
    for spec in random_readers(seed, count, page_signs="abcd", density=0.2):
        many = len(spec[0])
        for moves in spec[0]:
            for sign in "abc":
                if rng.random() < 0.85:
                    moves[sign] = rng.randrange(many), rng.choice([sign] * 9 + [None, "go"])
        behind = [state for state in range(many) if rng.random() < 0.8]
        yield spec, rng.randrange(many), behind, rng.choice(machines)


def all_sets(signs):
    return ["".join(chosen) for size in range(len(signs) + 1) for chosen in itertools.combinations(signs, size)]


class RawTest(Case):
    def test_slow_sets(self):
        counts = {True: 0, False: 0, "several": 0, "none": 0, "long": 0}
        for spec, state, behind, machine in raw_doors(211, 700):
            door = Door(made(spec), state, behind, Language(*machine))
            failing, raw = {}, []
            for signs in all_sets(machine[0]):
                failing[signs] = first_failing(spec[0], state, behind, raw_spec(signs), machine, MOST, signs)
                found = goes_raw(door, signs)
                counts[found] += 1
                self.assertIs(found, goes_raw(signs=signs, door=door))
                if found:
                    self.assertIsNone(failing[signs])
                    raw.append(signs)
            greatest = [signs for signs in raw if not any(set(signs) < set(other) for other in raw)]
            found = raw_sets(door)
            self.assertEqual((type(found), found), (list, sorted(greatest)))
            lost = [signs for signs in failing if signs not in raw]
            least = sorted(signs for signs in lost if not any(set(other) < set(signs) for other in lost))
            refusals = raw_refusals(door)
            self.assertEqual((type(refusals), list(refusals)), (dict, least))
            for signs, text in refusals.items():
                if failing[signs] is not None or len(text) <= MOST:
                    self.assertEqual(text, failing[signs])
                else:
                    self.assertTrue(accepts(machine, text) and set(text) <= set(signs))
                    self.assertIsNotNone(slow_failure(spec[0], state, behind, raw_spec(signs), text))
                    counts["long"] += 1
            counts["several"] += len(greatest) > 1
            counts["none"] += not greatest
        self.assertGreater(min(counts[True], counts[False]), 300, counts)
        self.assertGreater(min(counts["several"], counts["none"]), 20, counts)

    def test_unions_that_do_not_go_raw(self):
        # A sign alone leads on in its own way; after the other one it tells a mark.
        reader = Reader([{"a": (1, "a"), "b": (2, "b")}, {"a": (1, "a"), "b": (0, "go")}, {"b": (2, "b"), "c": (2, "c")}])
        door = Door(reader, 0, [0, 1, 2], Language.every("abc"))
        self.assertEqual(raw_sets(door), ["a", "b"])
        self.assertEqual(raw_refusals(door), {"ab": "ab", "c": "c"})
        self.assertEqual([goes_raw(door, signs) for signs in ["", "a", "b", "c", "ab", "abc"]], [True, True, True, False, False, False])
        door = Door(reader, 2, [2], Language.every("abc"))
        self.assertEqual((raw_sets(door), raw_refusals(door)), (["bc"], {"a": "a"}))

    def test_the_empty_set(self):
        reader = Reader([{"a": (1, "a")}, {}])
        for language, behind, wanted in [(Language.every("a"), [1], ([], {"": ""})), (Language.of("a", "a"), [1], (["a"], {})),
                                         (Language.every("a"), [0], ([""], {"a": "a"})), (Language.of("a"), [], (["a"], {})),
                                         (Language.of("a", "a"), [], ([""], {"a": "a"})), (Language.of("ab"), [], (["ab"], {}))]:
            door = Door(reader, 0, behind, language)
            self.assertEqual((raw_sets(door), raw_refusals(door)), wanted)
            self.assertIs(goes_raw(door, ""), wanted[0] != [])

    def test_signs_that_the_reader_does_not_have(self):
        reader = Reader([{"a": (0, "a"), "p": (0, "b"), "c": (0, "b")}], [0])
        door = Door(reader, 0, [0], Language.every("abc"))
        self.assertEqual((raw_sets(door), raw_refusals(door)), (["a"], {"b": "b", "c": "c"}))
        unused = Door(reader, 0, [0], Language("ab", [{"a": 0, "b": 1}, {"a": 1, "b": 1}], [0]))
        self.assertEqual((raw_sets(unused), raw_refusals(unused)), (["ab"], {}))

    def test_long_least_texts(self):
        ring = Reader([{"a": ((state + 1) % 11, "a")} for state in range(11)])
        language = Language("a", [{"a": (at + 1) % 6} for at in range(6)], [3])
        door = Door(ring, 0, [state for state in range(11) if state != 10], language)
        self.assertEqual((raw_sets(door), raw_refusals(door)), ([""], {"a": "a" * 21}))
        self.assertEqual(failure(door, GivenWriter.raw("a"), "a" * 21), ("state", 10))

    def test_new_results(self):
        door = Door(Reader([{"a": (0, "a")}], [0]), 0, [0], Language.every("ab"))
        raw_sets(door).clear()
        raw_refusals(door).clear()
        self.assertEqual((raw_sets(door=door), raw_refusals(door=door)), (["a"], {"b": "b"}))

    def test_invalid_signs(self):
        door = Door(Reader([{"a": (0, "a")}], [0]), 0, [0], Language.every("abd"))
        for value in OTHER_VALUES + ["ba", "aa", "aba", "c", "ac", "z", "abcd", "abdd", ["a", "b"], 0, "a,b", "AB"]:
            self.fails(InvalidSigns, value, lambda: goes_raw(door, value))
        for signs in ["", "a", "b", "d", "ab", "ad", "bd", "abd"]:
            self.assertIs(goes_raw(door, signs), signs in ("", "a"))


if __name__ == "__main__":
    unittest.main()
