"""[30] to [32] The errors of the functions of exchange, and their sequence."""

import unittest

from sealedslots.errors import InvalidKinds, InvalidParts, InvalidStates, TooLarge
from sealedslots.exchange import exchange, is_exchange, is_parting, parting_context, replaces, set_ahead
from sealedslots.languages import Language
from sealedslots.readers import Reader
from tests.cases import Case, no_sets
from tests.samples import OTHER_VALUES

READER = Reader([{"p": (1, "a"), "q": (0, "go")}, {"p": (0, "b")}], [1])
LARGE = Reader([{}] * 7)
EVERY, ONE, EMPTY = Language.every("ab"), Language.of("ab", "a"), Language("ab", [{"a": 0, "b": 0}], [])
KINDS = [(EVERY, 4), (ONE, 0)]
GO, NOTHING = ("said", ("go",)), ("said", ())
SLOT, OTHER_SLOT = ("slot", "x", EVERY), ("slot", "y", ONE)
FOREIGN = ("slot", "z", Language.every("a"))

BAD_KINDS = [(value, None) for value in OTHER_VALUES + ["", "ab", 0, KINDS * 3, {0: (EVERY, 4)}, EVERY, {}, KINDS[0][0]]
             if not isinstance(value, (list, tuple)) or len(value) in (0, 6)]
BAD_KINDS += [([(Language.of("ab", "b" * many), 0) for many in range(5)], None)]
BAD_KINDS += [([value], 0) for value in OTHER_VALUES] + [
    ([(EVERY, value)], 0) for value in OTHER_VALUES + [5, 6, -2, "4", "0", [4], (4,)]] + [
    ([(value, 4)], 0) for value in OTHER_VALUES + ["ab", 0]] + [
    ([[EVERY, 4]], 0), ([(EVERY,)], 0), ([(EVERY, 4, 4)], 0), ([(EMPTY, 4)], 0), ((KINDS[0], (EMPTY, 0)), 1), ([(4, EVERY)], 0),
    (KINDS + [(Language.every("ab"), 0)], 2), (KINDS + [(ONE, 0)], 2), ([(EVERY, 4), (EVERY, 4)], 1), ([(EVERY, 4), (EVERY, 5)], 1),
    ([(EVERY, 5), (EVERY, 4)], 0), ([KINDS[0], None, KINDS[0]], 1), ([(Language.of("ab", "a", "a"), 0), (ONE, True)], 1),
    (((Language("ab", [{"a": 1, "b": 1}, {"a": 0, "b": 0}], [0, 1]), 1), (EVERY, 4)), 1)]

NO_PARTS = [value for value in OTHER_VALUES + [("piece",), ("piece", ()) + ((),), ("piece", []), ("piece", (("p",),)), ("piece", ("p",)),
            ("piece", (("p", "a"),)), ("piece", (("pq", None),)), ("piece", (("p", None),) * 13), ("piece", (["p", None],)),
            ("said", []), ("said", ("a",)), ("said", ("go",) * 7), ("said", "go"), ("said", (None,)), ("slot", "x"), ("slot", "X", EVERY),
            ("slot", "", EVERY), ("slot", "x", "ab"), ("slot", "toolonger", EVERY), ("slot", None, EVERY), ["slot", "x", EVERY],
            ("other", "x", EVERY), (None, ()), ("pieces", ()), ((), ()), 0]]
BAD_PARTS = [(value, "parts", None) for value in OTHER_VALUES + ["", "ab", 0, [GO] * 13, (GO,) * 13, {}, {GO: 1}, range(2)]
             if value not in ([], ()) and not (isinstance(value, (list, tuple)) and len(value) < 13)]
BAD_PARTS += [([value], "part", 0) for value in NO_PARTS] + [((GO, SLOT, value, FOREIGN), "part", 2) for value in NO_PARTS] + [
    ([SLOT, SLOT, FOREIGN, None], "part", 3), ([FOREIGN], "language", 0), ([SLOT, SLOT, GO, FOREIGN], "language", 3),
    ((SLOT, NOTHING, OTHER_SLOT, FOREIGN, FOREIGN), "language", 3), ([("slot", "x", EMPTY)], "language", 0),
    ([SLOT, SLOT], "mark", 1), ((SLOT, NOTHING, OTHER_SLOT), "mark", 2), ([SLOT, GO, SLOT, ("piece", (("p", None),)), SLOT, SLOT], "mark", 4),
    ([GO, SLOT, ("piece", ()), ("said", ()), SLOT], "mark", 4)]
GOOD_PARTS = [[], (), [GO], (SLOT,), [SLOT, GO, SLOT, GO, SLOT, GO, SLOT, GO, SLOT, GO, SLOT, GO], [SLOT, ("piece", (("z", "other"),)), OTHER_SLOT]]

ROW_FUNCTIONS = [exchange, replaces, parting_context]
CHECKS = [lambda *rest: is_exchange(*rest, None), lambda *rest: is_parting(*rest, None)]


class ErrorsTest(Case):
    def fails_at(self, error, places, call):
        with self.assertRaises(error) as caught:
            call()
        self.assertEqual(tuple(vars(caught.exception).values()), places)

    def test_kinds(self):
        for kinds, place in BAD_KINDS:
            for parts, behind in [([], [0]), (None, None), ([None], [5])]:
                self.fails_at(InvalidKinds, (place,), lambda: set_ahead(READER, kinds, parts, behind))
            self.fails_at(InvalidKinds, (place,), lambda: set_ahead(behind=5, parts=5, kinds=kinds, reader=READER))
            for call in ROW_FUNCTIONS + CHECKS:
                for reader in (READER, LARGE):
                    self.fails_at(InvalidKinds, (place,), lambda: call(reader, kinds, [], []))
                    self.fails_at(InvalidKinds, (place,), lambda: call(reader, kinds, None, [None]))

    def test_parts(self):
        for parts, problem, place in BAD_PARTS:
            for behind in [[0], None, [5]]:
                self.fails_at(InvalidParts, (problem, place), lambda: set_ahead(READER, KINDS, parts, behind))
            for call in ROW_FUNCTIONS + CHECKS:
                for reader in (READER, LARGE):
                    self.fails_at(InvalidParts, (problem, place), lambda: call(reader, tuple(KINDS), parts, []))
                    self.fails_at(InvalidParts, (problem, place), lambda: call(reader, KINDS, parts, [FOREIGN] * 12))
                    self.fails_at(InvalidParts, (problem, place), lambda: call(reader, KINDS, [SLOT], parts))

    def test_parts_that_are_right(self):
        for one in GOOD_PARTS:
            set_ahead(READER, KINDS, one, [0])
            for other in GOOD_PARTS:
                for call in ROW_FUNCTIONS + CHECKS:
                    call(READER, KINDS, one, other)

    def test_states_come_last(self):
        for value in no_sets(2):
            self.fails(InvalidStates, value, lambda: set_ahead(READER, KINDS, [], value))
        for value in no_sets(7):
            self.fails(InvalidStates, value, lambda: set_ahead(LARGE, KINDS, (SLOT, GO), value))

    def test_too_large_comes_last(self):
        for call in ROW_FUNCTIONS:
            self.fails_at(TooLarge, ("states", 6), lambda: call(LARGE, KINDS, [SLOT], [GO]))
            self.fails_at(TooLarge, ("states", 6), lambda: call(reader=LARGE, kinds=KINDS, one=[], other=[]))
            call(Reader([{}] * 6), KINDS, [SLOT], [GO])
        self.assertIs(is_exchange(LARGE, KINDS, [], [], None), False)
        self.assertIs(is_parting(LARGE, KINDS, [], [], None), False)
        self.assertEqual(set_ahead(LARGE, KINDS, [], [6]), (6,))

    def test_checks_take_any_value(self):
        for value in OTHER_VALUES:
            for call in (is_exchange, is_parting):
                self.assertIs(call(READER, KINDS, [SLOT], [GO], value), False)
                self.assertIs(call(value=value, other=(), one=[], kinds=tuple(KINDS), reader=LARGE), False)


if __name__ == "__main__":
    unittest.main()
