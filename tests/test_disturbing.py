"""[39] Changes that disturb what stands ahead: compared with slow changes, and with sealed and fillable templates."""

import itertools
import random
import unittest

from sealedslots.documents import Document
from sealedslots.edits import disturbing, is_disturbing, rewrites
from sealedslots.filling import find_unfillable, texts_in
from sealedslots.languages import Language
from sealedslots.readers import Reader
from sealedslots.sealing import is_sealed
from sealedslots.templates import Template
from tests.cases import Case, made
from tests.edit_samples import choosing_templates, editing_of, filled_templates, layered_templates
from tests.samples import OTHER_VALUES, accepts, words
from tests.template_samples import other_templates
from tests.test_edits import index_of

GO, NOTHING = ("said", ("go",)), ("said", ())
BOTH = Language.of("ab", "a", "b")
READER = Reader([{"q": (1, "go"), "r": (2, "go")}, {"p": (3, "a")}, {"p": (3, "b")}, {}], [3])
TEMPLATE = Template(READER, [GO, ("slot", "x", BOTH)])


def slow_disturbs(editing, page, changes):
    """[39] for changes of slots to texts of their languages."""
    template = editing.template
    if editing.sealed or texts_in(template, page) is None or len(changes) > len(template.slots()):
        return False
    document, disturbs = Document.of_page(template, page), False
    for slot, text in changes:
        texts, old = {**document.texts(), slot: text}, document.words()
        least = editing.least_counts(texts, old, index_of(editing.parts, slot))
        if least is None:
            return False
        disturbs = disturbs or least[0] > 0
        document.change(slot, text)
    return disturbs


class SlowTest(Case):
    def check_found(self, template, counts):
        found = disturbing(template)
        fillable, sealed = find_unfillable(template) is None, is_sealed(template)
        self.assertEqual(found is None, sealed or not fillable)
        counts["sealed" if sealed else "found" if fillable else "none"] += 1
        if found is None:
            return None
        page, changes = found
        self.assertEqual((type(found), type(changes)), (tuple, list))
        self.assertLessEqual(len(changes), len(template.slots()))
        self.assertIs(is_disturbing(template, found), True)
        self.assertEqual(disturbing(template=template), found)
        # One change at least rewrites a part ahead of its slot.
        document, ahead = Document.of_page(template, page), 0
        for slot, text in changes:
            ahead += rewrites(document, slot, text)[0]
            document.change(slot, text)
        self.assertGreater(ahead, 0)
        return found

    def test_fillable_templates_that_are_not_sealed(self):
        counts = {"sealed": 0, "found": 0, "none": 0}
        for spec, parts, machines in other_templates(421, 250):
            self.check_found(Template(made(spec), parts), counts)
        for spec, parts, machines, template, _ in layered_templates(422, 900):
            self.check_found(template, counts)
        for spec, parts, machines, template, _ in filled_templates(423, 300, 3):
            self.check_found(template, counts)
        several = 0
        for spec, parts, machines, template, _ in choosing_templates(426, 400):
            found = self.check_found(template, counts)
            several += found is not None and len(found[1]) > 1
        self.assertGreater(several, 10)
        self.assertGreater(min(counts.values()), 30, counts)

    def test_random_changes(self):
        rng = random.Random(424)
        counts = {True: 0, False: 0, "unfillable": 0}
        samples = itertools.chain(layered_templates(425, 400), choosing_templates(427, 300))
        for spec, parts, machines, template, fillings in samples:
            if is_sealed(template) and rng.random() < 0.8:
                continue
            editing = editing_of(spec, parts, machines, 0)
            editing.template = template
            texts = {name: [text for text in words("ab", 2) if accepts(machines[name], text)] for name in machines}
            for _ in range(8):
                page = rng.choice(sorted(fillings))
                slots = [rng.choice(template.slots()) for _ in range(rng.randint(0, len(machines) + 1))]
                changes = [(slot, rng.choice(texts[slot])) for slot in slots]
                wanted = slow_disturbs(editing, page, changes)
                self.assertIs(is_disturbing(template, (page, changes)), wanted)
                counts[wanted] += 1
                counts["unfillable"] += wanted and find_unfillable(template) is not None
        self.assertGreater(min(counts[True], counts[False]), 60, counts)
        # Also templates that are not fillable may have them; they are only not looked for.
        self.assertGreater(counts["unfillable"], 10)


class ExamplesTest(Case):
    def test_an_example(self):
        self.assertEqual(disturbing(TEMPLATE), ("qp", [("x", "b")]))
        for value in [("qp", [("x", "b")]), ("rp", [("x", "a")])]:
            self.assertIs(is_disturbing(TEMPLATE, value), True)
            self.assertIs(is_disturbing(value=value, template=TEMPLATE), True)

    def test_two_slots_that_are_needed(self):
        # The text of x decides alone where y begins, and there b is written ahead only if the first part is another one.
        reader = Reader([{"q": (1, "go"), "r": (2, "go")}, {"p": (3, "a"), "q": (4, "b")}, {"p": (4, "a"), "q": (3, "b")},
                         {"s": (5, "go")}, {"s": (6, "go")}, {"p": (7, "a")}, {"p": (7, "b")}, {}], [7])
        template = Template(reader, [GO, ("slot", "x", BOTH), GO, ("slot", "y", BOTH)])
        self.assertEqual((is_sealed(template), find_unfillable(template)), (False, None))
        page, changes = disturbing(template)
        self.assertIs(is_disturbing(template, (page, changes)), True)
        self.assertIs(is_disturbing(template, ("qpsp", [("x", "b")])), True)
        self.assertIs(is_disturbing(template, ("qpsp", [("x", "a")])), False)
        self.assertIs(is_disturbing(template, ("qpsp", [("x", "a"), ("y", "b")])), True)
        self.assertIs(is_disturbing(template, ("qpsp", [("y", "b"), ("x", "b")])), True)

    def test_templates_without_slots(self):
        for parts, wanted in [([GO, ("piece", (("p", None),))], None), ([GO], None)]:
            template = Template(Reader([{"q": (0, "go")}], [0]), parts)
            self.assertIsNone(disturbing(template))
            self.assertIs(is_disturbing(template, ("q", [])), False)
            self.assertIs(is_disturbing(template, ("q", [("x", "a")])), False)

    def test_sealed_templates(self):
        template = Template(READER, [GO, ("slot", "x", Language.of("ab", "b"))])
        self.assertIs(is_sealed(template), True)
        self.assertIsNone(disturbing(template))
        self.assertIs(is_disturbing(template, ("rp", [("x", "b")])), False)
        # A document that does not stand is changed ahead of its slot; but the template is sealed.
        guess = Reader([{"q": (1, "go"), "r": (2, "go")}, {"p": (3, "a")}, {"p": (3, "a"), "q": (3, "b")}, {}], [3])
        template = Template(guess, [GO, ("slot", "x", BOTH)])
        self.assertEqual(rewrites(Document.of_page(template, "qp"), "x", "b"), (1, 0))
        self.assertIs(is_disturbing(template, ("qp", [("x", "b")])), False)


class ValuesTest(Case):
    GOOD = ("qp", [("x", "b")])

    def test_properties_one_by_one(self):
        bad = [("rp", [("x", "b")]), ("qp", [("x", "a")]), ("qp", []), ("q", [("x", "b")]), ("", [("x", "b")]), ("qz", [("x", "b")]),
               ("qp", [("x", "b"), ("x", "a")]), ("qp", [("x", "ab")]), ("qp", [("y", "b")]), ("qp", [("x", "")]),
               ("qp", [("x", "b")] * 2), ("qpp", [("x", "b")]), ("qp", [("x", "c")])]
        for value in bad:
            self.assertIs(is_disturbing(TEMPLATE, value), False, value)

    def test_a_change_that_is_not_possible(self):
        texts = Language.of("ab", "a", "b", "aa")
        template = Template(READER, [GO, ("slot", "x", texts)])
        self.assertIs(is_disturbing(template, ("qp", [("x", "b")])), True)
        self.assertIs(is_disturbing(template, ("qp", [("x", "aa")])), False)
        two = Template(Reader([{"q": (1, "go"), "r": (2, "go")}, {"p": (3, "a")}, {"p": (3, "b")}, {"s": (4, "go")}, {"p": (5, "a")}, {}], [5]),
                       [GO, ("slot", "x", BOTH), GO, ("slot", "y", BOTH)])
        self.assertIs(is_disturbing(two, ("qpsp", [("x", "b")])), True)
        self.assertIs(is_disturbing(two, ("qpsp", [("x", "b"), ("y", "b")])), False)
        self.assertIs(is_disturbing(two, ("qpsp", [("y", "b"), ("x", "b")])), False)
        self.assertIs(is_disturbing(two, ("qpsp", [("x", "b"), ("x", "a")])), True)
        self.assertIs(is_disturbing(two, ("qpsp", [("x", "b"), ("x", "a"), ("x", "b")])), False)

    def test_forms(self):
        page, changes = self.GOOD
        bad = [[page, changes], (page,), (page, changes, []), (page, tuple(changes)), (page, [["x", "b"]]), (page, [("x",)]),
               (page, [("x", "b", "")]), (page, {"x": "b"}), (changes, page), (page, "xb"), (page, ["xb"]), (page, [("b", "x")])]
        for value in OTHER_VALUES:
            bad += [value, (value, changes), (page, value), (page, [value]), (page, [(value, "b")]), (page, [("x", value)])]
        for value in bad:
            self.assertIs(is_disturbing(TEMPLATE, value), False, value)
        self.assertIs(is_disturbing(TEMPLATE, self.GOOD), True)

    def test_arguments_do_not_change(self):
        value = ("qp", [("x", "b")])
        self.assertIs(is_disturbing(TEMPLATE, value), True)
        self.assertEqual(value, ("qp", [("x", "b")]))
        found = disturbing(TEMPLATE)
        found[1].append(5)
        self.assertEqual(disturbing(TEMPLATE), ("qp", [("x", "b")]))


if __name__ == "__main__":
    unittest.main()
