"""[21] Sets ahead under vectors, sealing and failing vectors: compared with all vectors."""

import itertools
import unittest

from sealedslots.errors import InvalidVector
from sealedslots.languages import Language
from sealedslots.readers import Reader
from sealedslots.sealing import sets_ahead
from sealedslots.templates import Template
from sealedslots.vectors import failing_vectors, is_sealed_under, sealing_vectors, sets_under
from tests.cases import Case, made
from tests.door_samples import A_THEN_B, machine_of_texts
from tests.samples import OTHER_VALUES
from tests.slow_games import sets_under as slow_sets_under
from tests.template_samples import BOTH, STATES, other_templates, random_templates

GO = ("said", ("go",))


def slot(name, language):
    return ("slot", name, language)


class SlowTest(Case):
    def check(self, spec, parts, machines, counts):
        template = Template(made(spec), parts)
        many = len(template.slots())
        sealed, known = {}, {}
        for vector in itertools.product(range(5), repeat=many):
            wanted = slow_sets_under(spec, parts, machines, vector, known)
            if many < 3 or sum(vector) % 5 == 0:
                found = sets_under(template, vector)
                self.assertEqual((type(found), found), (list, wanted))
                self.assertIs(is_sealed_under(template, vector), spec[2] in wanted[0])
            sealed[vector] = spec[2] in wanted[0]
        self.assertEqual(sets_under(template, (4,) * many), sets_ahead(template))

        def less(one, other):
            return one != other and all(first <= second for first, second in zip(one, other))

        sealing = [vector for vector in sealed if sealed[vector]]
        failing = [vector for vector in sealed if not sealed[vector]]
        least = sorted(vector for vector in sealing if not any(less(other, vector) for other in sealing))
        greatest = sorted(vector for vector in failing if not any(less(vector, other) for other in failing))
        self.assertEqual(sealing_vectors(template), least)
        self.assertEqual(failing_vectors(template), greatest)
        self.assertEqual((sealing_vectors(template=template), failing_vectors(template=template)), (least, greatest))
        kind = "all" if not failing else "none" if not sealing else "some"
        counts[kind] = counts.get(kind, 0) + 1
        counts["several"] = counts.get("several", 0) + (len(least) > 1)

    def test_random_templates(self):
        counts = {}
        for spec, parts, machines in random_templates(151, 150):
            if len(machines) < 3:
                self.check(spec, parts, machines, counts)
        self.assertGreater(min(counts["all"], counts["none"]), 10)

    def test_readers_that_have_to_guess(self):
        counts = {}
        for spec, parts, machines in other_templates(152, 60):
            self.check(spec, parts, machines, counts)
        self.assertGreater(min(counts["some"], counts["none"], counts["several"]), 5, counts)

    def test_four_slots(self):
        # The last slot begins in a state from which its text has to be guessed, and so on.
        reader = [{"p": (1, "a"), "q": (2, "a"), "s": (0, "go")}, {"p": (0, "a"), "s": (0, None)}, {"p": (0, "b")}]
        tree, ends = machine_of_texts(BOTH)
        machines = {name: ("ab", tree, ends) for name in "wxyz"}
        machines["y"] = ("ab", *machine_of_texts(["aa", ""]))
        parts = []
        for name in "wxyz":
            parts += [slot(name, Language(*machines[name])), GO]
        for first in [0, 1]:
            self.check((reader, [0], first), parts, machines, {})
        found = sealing_vectors(Template(Reader(reader, [0]), parts))
        self.assertEqual(found, [(1, 1, 0, 1)])


class ExamplesTest(Case):
    def test_the_example_of_the_document(self):
        reader = Reader([{"q": (1, "begin")}, {"p": (1, "a"), "q": (2, "end"), "r": (3, None)}, {},
                         {"q": (1, "b"), "r": (1, "a")}], [2])
        parts = [("piece", (("q", "begin"),)), slot("text", Language.every("ab")), ("piece", (("q", "end"),))]
        template = Template(reader, parts)
        self.assertEqual(sealing_vectors(template), [(0,)])
        self.assertEqual(failing_vectors(template), [])
        for entry in range(5):
            self.assertEqual(sets_under(template, (entry,)), [(0,), (1,), (1,), (2,)])
            self.assertIs(is_sealed_under(template=template, vector=(entry,)), True)

    def test_templates_without_slots(self):
        reader = Reader([{"q": (1, "go")}, {}], [1])
        self.assertEqual(sets_under(Template(reader, [GO]), ()), [(0,), (1,)])
        self.assertEqual((sealing_vectors(Template(reader, [GO])), failing_vectors(Template(reader, [GO]))), ([()], []))
        self.assertEqual((sealing_vectors(Template(reader, [GO, GO])), failing_vectors(Template(reader, [GO, GO]))), ([], [()]))
        self.assertIs(is_sealed_under(Template(reader, [GO]), ()), True)
        self.assertIs(is_sealed_under(Template(reader, [GO, GO]), ()), False)

    def test_whole_texts_only(self):
        reader = Reader([{"p": (1, "a"), "q": (2, "a")}, {"p": (1, "a"), "t": (4, "go")}, {"p": (2, "a"), "q": (3, "b")},
                         {"t": (4, "go")}, {}], [4])
        template = Template(reader, [slot("x", A_THEN_B), GO])
        self.assertEqual((sealing_vectors(template), failing_vectors(template)), ([(4,)], [(3,)]))
        self.assertEqual([sets_under(template, (entry,)) for entry in (3, 4)], [[(), (1, 3), (4,)], [(0,), (1, 3), (4,)]])

    def test_a_lesser_entry_asks_for_a_greater_one(self):
        language = Language.of("ab", *BOTH)
        template = Template(Reader(STATES, [11]), [slot("x", language), GO, slot("y", language)])
        self.assertEqual((sealing_vectors(template), failing_vectors(template)), ([(0, 1), (1, 0)], [(0, 0)]))
        self.assertEqual(sets_under(template, (0, 1)), [(0,), (5, 6), (7, 8), (11,)])
        self.assertEqual(sets_under(template, (1, 0)), [(0,), (5,), (7,), (11,)])
        self.assertEqual(sets_under(template, (0, 0)), [(), (5,), (7,), (11,)])

    def test_new_lists(self):
        template = Template(Reader([{"p": (0, "a")}], [0]), [slot("x", Language.every("a"))])
        sets_under(template, (0,)).clear()
        sealing_vectors(template).clear()
        failing_vectors(template).append(1)
        self.assertEqual(sets_under(template, (0,)), [(0,), (0,)])
        self.assertEqual((sealing_vectors(template), failing_vectors(template)), ([(0,)], []))


class ErrorsTest(Case):
    def test_no_vectors(self):
        reader = Reader([{"p": (0, "a"), "q": (0, "go")}], [0])
        every = Language.every("a")
        for parts in [[GO], [slot("x", every)], [slot("x", every), GO, slot("y", every)]]:
            template = Template(reader, parts)
            many = len(template.slots())
            wrong = [value for value in OTHER_VALUES if value != ()] + [
                [0] * many, (0,) * (many + 1), (0,) * (many + 2), "0" * many, 0, 4, {0: 0}, range(many)]
            wrong += [(0,) * (many - 1)] if many else [(0,)]
            for value in [5, -1, True, False, None, "0", [0], (0,), {}, 10 ** 29]:
                for place in range(many):
                    wrong.append((0,) * place + (value,) + (4,) * (many - 1 - place))
            for value in wrong:
                self.fails(InvalidVector, value, lambda: sets_under(template, value))
                self.fails(InvalidVector, value, lambda: is_sealed_under(template, value))


if __name__ == "__main__":
    unittest.main()
