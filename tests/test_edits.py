"""[37], [38] Changes of documents: compared with all possible new documents of small templates."""

import itertools
import random
import unittest

from sealedslots.documents import Document
from sealedslots.edits import reach, rewrites
from sealedslots.errors import InvalidCount, NotMember, NoWay, UnknownSlot
from sealedslots.filling import find_unfillable
from sealedslots.languages import Language
from sealedslots.pages import reading
from sealedslots.readers import Reader
from sealedslots.sealing import is_sealed
from sealedslots.templates import Template
from tests.cases import Case
from tests.edit_samples import choosing_templates, editing_of, filled_templates, layered_templates, random_document
from tests.samples import OTHER_VALUES, accepts, words
from tests.slow_edits import fit_end

MOST = 5
GO, NOTHING = ("said", ("go",)), ("said", ())
EVERY = Language.every("a")


def some_text(rng, machine, present):
    """A text of the language, mostly another one than the present one."""
    texts = [text for text in words(machine[0], 4) if accepts(machine, text) and text != present]
    if not texts or rng.random() < 0.1:
        return present
    return rng.choice(texts[:5] if rng.random() < 0.7 else texts)


def index_of(parts, slot):
    return [index for index, part in enumerate(parts) if part[0] == "slot" and part[1] == slot][0]


class SlowTest(Case):
    def setUp(self):
        self.counts = {"page": 0, "none": 0, "ahead": 0, "behind": 0, "kept": 0, "same": 0, "sealed": 0, "fillable": 0}

    def check_changes(self, rng, samples, most, times):
        for spec, parts, machines, template, fillings in samples:
            if not machines:
                continue
            editing = editing_of(spec, parts, machines, most)
            fillable = find_unfillable(template) is None
            document = random_document(rng, template, parts, machines, fillings)
            stood = document.stands()
            for _ in range(times):
                slot = rng.choice(template.slots())
                text = some_text(rng, machines[slot], document.texts()[slot])
                self.check_change(editing, document, slot, text, fillable, stood, most)
                self.check_reach(rng, editing, document, slot, text)
                stood = stood or (editing.sealed and document.stands())

    def check_change(self, editing, document, slot, text, fillable, stood, most):
        before, index = document.clone(), index_of(editing.parts, slot)
        old, texts = document.words(), {**document.texts(), slot: text}
        wanted = editing.least_counts(texts, old, index)
        self.assertEqual(rewrites(document, slot, text), wanted)
        if wanted is None:
            with self.assertRaises(NoWay) as caught:
                document.change(slot, text)
            self.assertEqual(caught.exception.name, slot)
            self.assertTrue(document == before)
            self.assertFalse(fillable)
            self.counts["none"] += 1
            return
        self.assertTrue(document == before)
        changed = document.change(slot, text)
        new = document.words()
        rewritten = [at for at in range(len(old)) if at != index and old[at] != new[at]]
        self.assertEqual((type(changed), changed), (tuple, tuple(rewritten)))
        self.assertEqual((len([at for at in rewritten if at < index]), len([at for at in rewritten if at > index])), wanted)
        self.check_fits(editing, document, texts)
        if len(document) <= most:
            found = min(editing.documents(texts, len(document)), key=lambda words: editing.order(words, old, index))
            self.assertEqual(new, found)
            self.counts["page"] += 1
        self.counts["ahead"] += wanted[0] > 0
        self.counts["behind"] += wanted[1] > 0
        self.counts["kept"] += wanted == (0, 0)
        self.counts["same"] += before.texts()[slot] == text
        self.counts["fillable"] += fillable and not editing.sealed
        if editing.sealed:
            self.assertIs(document.stands(), True)
            self.counts["sealed"] += 1
            if stood:
                self.assertEqual(wanted[0], 0)

    def check_fits(self, editing, document, texts):
        """READ BACK: the words fit, from the start to an end, with the texts."""
        state = editing.start
        for part, word in zip(editing.parts, document.words()):
            state = fit_end(editing.states, part, texts, state, word)
            self.assertIsNotNone(state)
        self.assertIn(state, editing.ends)
        self.assertEqual(document.texts(), texts)
        self.assertEqual(reading(document.template.reader, document.page), document.template.row(texts))

    def check_reach(self, rng, editing, document, slot, text):
        old, index = document.words(), index_of(editing.parts, slot)
        texts = {**document.texts(), slot: text}
        least = rewrites(document, slot, text)
        for ahead, behind in [(0, 0), (rng.randint(0, 3), rng.randint(0, 3)), (len(old), 20), least or (1, 1)]:
            found = reach(document, slot, text, ahead, behind)
            self.assertEqual((type(found), found), (list, editing.reach(texts, old, index, ahead, behind)))
            if least is not None and ahead >= least[0] and behind >= least[1]:
                self.assertTrue(found[-1])
            if least is None or ahead < least[0]:
                self.assertEqual(found[-1], ())

    def test_random_templates(self):
        rng = random.Random(411)
        self.check_changes(rng, filled_templates(412, 1300, MOST), MOST + 1, 5)
        self.assertGreater(self.counts["page"], 300, self.counts)
        self.assertGreater(min(self.counts[key] for key in ["none", "kept", "same", "sealed"]), 50, self.counts)

    def test_layered_templates(self):
        rng = random.Random(413)
        self.check_changes(rng, layered_templates(414, 1500), 8, 8)
        self.assertGreater(min(self.counts.values()), 50, self.counts)

    def test_templates_whose_early_words_suit_late_ones(self):
        rng = random.Random(419)
        self.check_changes(rng, choosing_templates(420, 250), 8, 8)
        self.assertGreater(min(self.counts[key] for key in ["page", "none", "ahead", "sealed", "fillable"]), 50, self.counts)

    def test_many_changes_one_after_another(self):
        rng = random.Random(415)
        sealed = 0
        for spec, parts, machines, template, fillings in itertools.islice(layered_templates(416, 800), 80):
            editing = editing_of(spec, parts, machines, 0)
            document = random_document(rng, template, parts, machines, fillings)
            stood = False
            for _ in range(40):
                slot = rng.choice(template.slots())
                texts = document.texts()
                text = some_text(rng, machines[slot], texts[slot])
                many = rewrites(document, slot, text)
                if many is not None:
                    document.change(slot, text)
                    texts[slot] = text
                    # If a document stood once, no part ahead is ever rewritten again.
                    self.assertTrue(not stood or many[0] == 0)
                    stood = editing.sealed
                self.check_fits(editing, document, texts)
            sealed += stood
        self.assertGreater(sealed, 5)


class ExamplesTest(Case):
    # p tells a and q b in each state, but the moves lead on; r and s tell go, and s leads to where only q tells b.
    READER = Reader([{"p": (0, "a"), "q": (0, "b"), "r": (0, "go"), "s": (1, "go"), "t": (0, None)}, {"q": (1, "b"), "r": (0, "go")}], [0, 1])
    TEXTS = Language.every("ab")

    def template(self):
        return Template(self.READER, [("slot", "x", self.TEXTS), GO, NOTHING, ("slot", "y", self.TEXTS)])

    def test_a_word_that_is_kept_though_another_one_would_be_less(self):
        document = Document.of_words(self.template(), ["tp", "tr", "t", "tq"])
        self.assertEqual(document.change("x", "a"), ())
        # The word of the slot itself does not count: it is the least one now. The others are kept.
        self.assertEqual(document.words(), ["p", "tr", "t", "tq"])
        self.assertEqual(document.change("y", "ab"), ())
        self.assertEqual(document.words(), ["p", "tr", "t", "pq"])

    def test_a_part_behind_that_must_be_rewritten(self):
        # From state 0 alone b is told by two signs; behind s the word of the last slot does not fit any more.
        reader = Reader([{"p": (1, "a"), "q": (2, "b")}, {"r": (3, "go")}, {"r": (4, "go")}, {"p": (5, "a"), "q": (5, "b")},
                         {"q": (5, "a"), "p": (5, "b")}, {}], [5])
        texts = Language.of("ab", "a", "b")
        template = Template(reader, [("slot", "x", texts), GO, ("slot", "y", texts)])
        document = Document(template, {"x": "a", "y": "b"})
        self.assertEqual((document.page, rewrites(document, "x", "b"), rewrites(document, "y", "a")), ("prq", (0, 1), (0, 0)))
        self.assertEqual(document.change("x", "b"), (2,))
        self.assertEqual((document.words(), document.texts()), (["q", "r", "p"], {"x": "b", "y": "b"}))
        self.assertEqual(document.change("y", "a"), ())
        self.assertEqual(document.words(), ["q", "r", "q"])
        self.assertEqual(reach(document, "x", "a", 0, 0), [(0,), (1,), (3,), ()])
        self.assertEqual(reach(document, "x", "a", 0, 1), [(0,), (1,), (3,), (5,)])
        self.assertEqual(document.change("x", "a"), (2,))

    def test_a_part_ahead_that_must_be_rewritten(self):
        reader = Reader([{"q": (1, "go"), "r": (2, "go")}, {"p": (3, "a")}, {"p": (3, "b")}, {}], [3])
        texts = Language.of("ab", "a", "b")
        template = Template(reader, [GO, ("slot", "x", texts)])
        self.assertEqual((is_sealed(template), find_unfillable(template)), (False, None))
        document = Document.of_page(template, "qp")
        self.assertEqual((rewrites(document, "x", "a"), rewrites(document, "x", "b")), ((0, 0), (1, 0)))
        self.assertEqual(reach(document, "x", "b", 0, 5), [(0,), (1,), ()])
        self.assertEqual(reach(document, "x", "b", 1, 0), [(0,), (1, 2), (3,)])
        self.assertEqual(document.change("x", "b"), (0,))
        self.assertEqual((document.page, document.texts()), ("rp", {"x": "b"}))

    def test_fewer_parts_ahead_come_before_fewer_parts_behind(self):
        # Behind p all of the two last slots must be rewritten; q would keep them, but needs another mark ahead.
        reader = Reader([{"r": (1, "go"), "s": (2, "go")}, {"p": (3, "a"), "q": (4, "b")}, {"p": (3, "a"), "q": (3, "b")},
                         {"t": (5, "go")}, {"t": (6, "go")}, {"p": (7, "a")}, {"q": (7, "a")}, {}], [7])
        texts = Language.of("ab", "a", "b")
        template = Template(reader, [GO, ("slot", "x", texts), GO, ("slot", "y", Language.of("ab", "a"))])
        document = Document.of_page(template, "rptp")
        self.assertEqual(rewrites(document, "x", "b"), (0, 1))
        self.assertEqual(document.change("x", "b"), (3,))
        self.assertEqual(document.page, "rqtq")

    def test_a_document_that_does_not_stand_stands_behind_a_change(self):
        guess = Reader([{"q": (1, "go"), "r": (2, "go")}, {"p": (3, "a")}, {"p": (3, "a"), "q": (3, "b")}, {}], [3])
        template = Template(guess, [GO, ("slot", "x", Language.of("ab", "a", "b"))])
        document = Document.of_page(template, "qp")
        self.assertIs(document.stands(), False)
        # Even the present text: the new document must stand, since the template is sealed.
        self.assertEqual(rewrites(document, "x", "a"), (1, 0))
        self.assertEqual(reach(document, "x", "a", 0, 0), [(0,), (), ()])
        self.assertEqual(reach(document, "x", "a", 1, 0), [(0,), (2,), (3,)])
        self.assertEqual(document.change("x", "a"), (0,))
        self.assertEqual((document.page, document.stands()), ("rp", True))

    def test_no_way(self):
        reader = Reader([{"q": (1, "go")}, {"p": (2, "a"), "r": (2, "b")}, {}], [2])
        template = Template(reader, [GO, ("slot", "x", Language.of("ab", "a", "b", "aa"))])
        document = Document.of_page(template, "qp")
        before = document.clone()
        for _ in range(2):
            with self.assertRaises(NoWay) as caught:
                document.change("x", "aa")
            self.assertEqual(caught.exception.name, "x")
            self.assertTrue(document == before)
            self.assertIsNone(rewrites(document, "x", "aa"))
            self.assertEqual(reach(document, "x", "aa", 9, 9), [(0,), (1,), ()])
        self.assertEqual(document.change("x", "b"), ())
        self.assertEqual((document.page, before.page), ("qr", "qp"))

    def test_pieces_keep_their_words(self):
        reader = Reader([{"p": (1, "a"), "q": (2, "b")}, {"r": (3, "go")}, {"r": (3, "stop"), "s": (3, "go")}, {}], [3])
        template = Template(reader, [("slot", "x", Language.of("ab", "a", "b")), ("piece", (("r", "go"),))])
        document = Document.of_page(template, "pr")
        # The said part in its place can be rewritten; the piece cannot, and r tells something else there.
        self.assertIsNone(rewrites(document, "x", "b"))
        self.assertRaises(NoWay, document.change, "x", "b")
        said = Document.of_page(Template(reader, [("slot", "x", Language.of("ab", "a", "b")), GO]), "pr")
        self.assertEqual((said.change("x", "b"), said.page), ((1,), "qs"))
        self.assertEqual((said.change(text="a", slot="x"), said.page), ((1,), "pr"))

    def test_pieces_tell_the_same_at_the_same_signs(self):
        # Behind b the word qr tells go, too, but with its second sign.
        reader = Reader([{"p": (1, "a"), "q": (2, "b")}, {"q": (3, "go")}, {"q": (4, None)}, {"r": (5, None)}, {"r": (5, "go")}, {}], [5])
        both, piece = Language.of("ab", "a", "b"), ("piece", (("q", "go"), ("r", None)))
        document = Document.of_page(Template(reader, [("slot", "x", both), piece]), "pqr")
        self.assertIsNone(rewrites(document, "x", "b"))
        self.assertRaises(NoWay, document.change, "x", "b")
        self.assertEqual(reach(document, "x", "b", 1, 1), [(0,), (2, 4), ()])
        said = Document.of_page(Template(reader, [("slot", "x", both), GO]), "pqr")
        self.assertEqual((rewrites(said, "x", "b"), said.change("x", "b"), said.page), ((0, 0), (), "qqr"))

    def test_the_lengths_decide_last(self):
        # The silent sign t may belong to either part; behind the change the slot takes as few signs as it can.
        template = Template(self.READER, [NOTHING, ("slot", "x", self.TEXTS), NOTHING])
        document = Document.of_words(template, ["t", "p", "t"])
        self.assertEqual(document.change("x", ""), ())
        self.assertEqual(document.words(), ["t", "", "t"])
        both = Reader([{"t": (1, None)}, {"t": (2, None), "u": (3, None)}, {"t": (0, None)}, {"p": (3, "a")}], [1, 3])
        template = Template(both, [NOTHING, ("slot", "x", Language.of("a", "", "a")), NOTHING])
        document = Document.of_page(template, "t")
        self.assertEqual(document.words(), ["", "", "t"])
        # For a, t and u must stand ahead of p: in the slot. The last part is rewritten, since t does not fit behind p.
        self.assertEqual((rewrites(document, "x", "a"), document.change("x", "a")), ((0, 1), (2,)))
        self.assertEqual(document.words(), ["", "tup", ""])

    def test_counts_of_reach(self):
        template = self.template()
        document = Document(template, {"x": "a", "y": "b"})
        for counts in [(0, 0), (1, 0), (4, 4), (100, 10 ** 29)]:
            found = reach(document, "y", "ab", *counts)
            self.assertEqual(len(found), 5)
            self.assertEqual(found[0], (0,))
            self.assertEqual(found, reach(most_behind=counts[1], most_ahead=counts[0], text="ab", slot="y", document=document))
        self.assertEqual(reach(document, "x", "a", 0, 0), [(0,), (0,), (0,), (0,), (0,)])
        self.assertEqual(rewrites(text="a", slot="x", document=document), (0, 0))

    def test_many_rewritten_parts_ahead_do_not_count_behind(self):
        # To reach the last state, either one part ahead is rewritten or two behind; each count has a limit of its own.
        reader = Reader([{"q": (1, "go"), "r": (2, "go")}, {"p": (3, "a"), "q": (3, "b")}, {"p": (4, "a"), "q": (4, "b")},
                         {"r": (5, "go")}, {"q": (5, "go")}, {"r": (6, "stop")}, {}], [6])
        template = Template(reader, [GO, ("slot", "x", Language.of("ab", "a", "b")), GO, ("said", ("stop",))])
        document = Document.of_page(template, "qprr")
        self.assertEqual(reach(document, "x", "b", 0, 0), [(0,), (1,), (3,), (5,), (6,)])
        self.assertEqual(reach(document, "x", "b", 1, 0), [(0,), (1, 2), (3, 4), (5,), (6,)])
        self.assertEqual(reach(document, "x", "b", 1, 1), [(0,), (1, 2), (3, 4), (5,), (6,)])


class ErrorsTest(Case):
    READER = Reader([{"p": (0, "a"), "q": (0, "go")}], [0])
    TEMPLATES = [Template(READER, [("slot", "x", Language.of("a", "", "a")), GO, ("slot", "y", EVERY)]),
                 Template(READER, [("slot", "x", Language.of("ab", "", "a", "b")), GO, ("slot", "y", EVERY)])]
    NO_SLOTS = OTHER_VALUES + ["", "z", "go", "xy", 0, ("x",), ["x"], {"x": 1}]
    NO_TEXTS = [value for value in OTHER_VALUES if value != ""] + ["aa", "c", "go", 5, ["a"], ("a",)]
    NO_COUNTS = [value for value in OTHER_VALUES if value != 10 ** 29] + [-2, "0", "1", [0], (1,)]

    def calls(self, document, slot, text, counts):
        return [lambda: document.change(slot, text), lambda: rewrites(document, slot, text),
                lambda: reach(document, slot, text, *counts), lambda: document.change(text=text, slot=slot)]

    def test_errors_in_sequence(self):
        for template in self.TEMPLATES:
            document = Document.of_page(template, "pqp")
            before = document.clone()
            for slot in self.NO_SLOTS:
                for text in ["a", 5, "z"]:
                    for call in self.calls(document, slot, text, (None, -1)):
                        with self.assertRaises(UnknownSlot) as caught:
                            call()
                        self.assertIs(caught.exception.name, slot)
            for text in self.NO_TEXTS:
                for call in self.calls(document, "x", text, (None, -1)):
                    with self.assertRaises(NotMember) as caught:
                        call()
                    self.assertIs(caught.exception.word, text)
            for value in self.NO_COUNTS:
                self.fails(InvalidCount, value, lambda: reach(document, "x", "a", value, 0))
                self.fails(InvalidCount, value, lambda: reach(document, "x", "a", value, "other"))
                self.fails(InvalidCount, value, lambda: reach(document, "y", "", 0, value))
            self.assertTrue(document == before)

    def test_no_way_comes_last(self):
        document = Document.of_page(self.TEMPLATES[1], "pqp")
        for value in self.NO_COUNTS:
            self.fails(InvalidCount, value, lambda: reach(document, "x", "b", value, 0))
        self.assertIsNone(rewrites(document, "x", "b"))
        self.assertRaises(NoWay, document.change, "x", "b")


class RepeatedTest(unittest.TestCase):
    def test_repeated_queries_and_new_results(self):
        rng = random.Random(417)
        for spec, parts, machines, template, fillings in itertools.islice(filled_templates(418, 300, 4), 50):
            if not machines:
                continue
            document = random_document(rng, template, parts, machines, fillings)
            slot = rng.choice(template.slots())
            text = some_text(rng, machines[slot], document.texts()[slot])
            found = reach(document, slot, text, 1, 1)
            copy = list(found)
            found.append("z")
            self.assertEqual(reach(document, slot, text, 1, 1), copy)
            self.assertEqual(rewrites(document, slot, text), rewrites(document.clone(), slot, text))
            before = repr((template.reader, template.parts()))
            one, other = document.clone(), Document.of_words(Template(template.reader, template.parts()), document.words())
            if rewrites(document, slot, text) is not None:
                self.assertEqual(one.change(slot, text), other.change(slot, text))
            self.assertTrue(one == other)
            self.assertEqual(repr((template.reader, template.parts())), before)


if __name__ == "__main__":
    unittest.main()
