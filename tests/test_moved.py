"""[44] Documents that are moved to other readers: compared with all possible new documents of small templates."""

import random
import unittest

from sealedslots.changed import moved
from sealedslots.documents import Document
from sealedslots.errors import NoWay
from sealedslots.languages import Language
from sealedslots.pages import reading
from sealedslots.readers import Reader
from sealedslots.sealing import is_sealed
from sealedslots.templates import Template
from tests.cases import Case, made
from tests.edit_samples import choosing_templates, editing_of, filled_templates, layered_templates, random_document
from tests.samples import random_reader
from tests.slow_edits import fit_end

GO, NOTHING = ("said", ("go",)), ("said", ())
BOTH = Language.of("ab", "a", "b")


def other_reader(rng, spec):
    """The reader with a few other moves, ends and starts; or any other reader."""
    states, ends, start = [dict(moves) for moves in spec[0]], list(spec[1]), spec[2]
    if rng.random() < 0.05:
        return random_reader(rng, page_signs="pqr")
    for _ in range(rng.choice([0, 1, 1, 2, 3])):
        state = rng.randrange(len(states))
        if states[state] and rng.random() < 0.8:
            sign = rng.choice(sorted(states[state]))
            what = rng.choice(["sign", "sign", "lead", "lead", "told", "add"])
            after, told = states[state][sign]
            if what == "sign":
                # The sign for the same move is another one now.
                del states[state][sign]
                states[state][rng.choice("pqrstu")] = after, told
            elif what == "told":
                states[state][sign] = after, rng.choice([None, "a", "b", "go"])
            elif what == "lead":
                states[state][sign] = rng.randrange(len(states)), told
            else:
                states[state][rng.choice("pqrstu")] = after, told
        elif rng.random() < 0.5:
            ends = sorted(set(ends) ^ {state})
        else:
            start = state
    return states, ends, start


class SlowTest(Case):
    def check(self, rng, samples, most, counts):
        for spec, parts, machines, template, fillings in samples:
            document = random_document(rng, template, parts, machines, fillings)
            for _ in range(4):
                other = other_reader(rng, spec)
                if len({sign for moves in other[0] for sign in moves}) > 6:
                    continue
                self.check_moved(document, other, parts, machines, most, counts)

    def check_moved(self, document, other, parts, machines, most, counts):
        before, editing, reader = document.clone(), editing_of(other, parts, machines, most), made(other)
        texts, old = document.texts(), document.words()
        wanted = editing.least_counts(texts, old, None)
        if wanted is None:
            with self.assertRaises(NoWay) as caught:
                moved(document, reader)
            self.assertIsNone(caught.exception.name)
            self.assertTrue(document == before)
            counts["none"] += 1
            return
        found = moved(document, reader)
        self.assertTrue(document == before)
        self.assertTrue(found.template == Template(reader, parts))
        new = found.words()
        self.assertEqual(len([at for at in range(len(old)) if old[at] != new[at]]), wanted[0])
        state = editing.start
        for part, word in zip(parts, new):
            state = fit_end(editing.states, part, texts, state, word)
            self.assertIsNotNone(state)
        self.assertIn(state, editing.ends)
        self.assertEqual(found.texts(), texts)
        self.assertEqual(reading(reader, found.page), found.template.row(texts))
        if editing.sealed:
            self.assertIs(found.stands(), True)
            counts["sealed"] += 1
        if len(found) <= most:
            least = min(editing.documents(texts, len(found)), key=lambda words: editing.order(words, old, None))
            self.assertEqual(new, least)
            counts["page"] += 1
        counts["kept" if wanted[0] == 0 else "rewritten"] += 1
        counts["several"] += wanted[0] > 1

    def test_layered_templates(self):
        counts = dict.fromkeys(["none", "sealed", "page", "kept", "rewritten", "several"], 0)
        self.check(random.Random(471), layered_templates(472, 400), 8, counts)
        self.check(random.Random(473), choosing_templates(474, 150), 8, counts)
        self.assertGreater(min(counts.values()), 40, counts)

    def test_random_templates(self):
        counts = dict.fromkeys(["none", "sealed", "page", "kept", "rewritten", "several"], 0)
        self.check(random.Random(475), filled_templates(476, 500, 5), 6, counts)
        self.assertGreater(min(counts[key] for key in ["none", "page", "kept", "sealed"]), 20, counts)

    def test_a_document_that_is_moved_to_its_own_reader(self):
        rng, changed = random.Random(477), 0
        for spec, parts, machines, template, fillings in layered_templates(478, 200):
            document = random_document(rng, template, parts, machines, fillings)
            found = moved(document, made(spec))
            if document.stands() or not is_sealed(template):
                # All words are kept.
                self.assertTrue(found == document)
            else:
                self.assertIs(found.stands(), True)
                changed += 1
        self.assertGreater(changed, 2)


class ExamplesTest(Case):
    ONE = Reader([{"p": (1, "a"), "q": (1, "b")}, {"r": (2, "go")}, {}], [2])
    OTHER = Reader([{"p": (1, "b"), "q": (1, "a"), "s": (0, None)}, {"r": (2, "go"), "s": (1, None)}, {}], [2])
    PARTS = [("slot", "x", BOTH), GO]

    def test_words_that_have_to_be_rewritten(self):
        document = Document(Template(self.ONE, self.PARTS), {"x": "a"})
        self.assertEqual(document.page, "pr")
        found = moved(document, self.OTHER)
        self.assertEqual((found.page, found.words(), found.texts(), document.page), ("qr", ["q", "r"], {"x": "a"}, "pr"))
        self.assertTrue(moved(found, self.ONE) == document)
        self.assertTrue(moved(reader=self.OTHER, document=document) == found)
        self.assertTrue(found.template.reader == self.OTHER)

    def test_words_that_are_kept_although_there_are_lesser_ones(self):
        document = Document.of_page(Template(self.OTHER, self.PARTS), "sqssr")
        self.assertEqual(document.words(), ["sq", "ssr"])
        slow = Reader([{"q": (1, "a"), "s": (0, None)}, {"q": (2, "go"), "r": (2, "go"), "s": (1, None)}, {}], [2])
        found = moved(document, slow)
        self.assertEqual(found.words(), ["sq", "ssr"])
        # The slot is rewritten, but not what follows.
        other = Reader([{"p": (1, "a"), "q": (0, None)}, {"q": (2, "go"), "r": (2, "go"), "s": (1, None)}, {}], [2])
        self.assertEqual(moved(document, other).words(), ["p", "ssr"])

    def test_no_way(self):
        document = Document(Template(self.ONE, self.PARTS), {"x": "b"})
        for reader in [Reader([{}], [0]), Reader([{"p": (1, "a"), "q": (1, "b")}, {"r": (2, "go")}, {}]),
                       Reader([{"p": (1, "a")}, {"r": (2, "go")}, {}], [2])]:
            with self.assertRaises(NoWay) as caught:
                moved(document, reader)
            self.assertIsNone(caught.exception.name)
        self.assertEqual((document.page, document.texts()), ("qr", {"x": "b"}))

    def test_pieces_keep_their_words(self):
        piece = Document.of_page(Template(self.ONE, [("slot", "x", BOTH), ("piece", (("r", "go"),))]), "pr")
        renamed = Reader([{"p": (1, "a"), "q": (1, "b")}, {"s": (2, "go")}, {}], [2])
        with self.assertRaises(NoWay):
            moved(piece, renamed)
        early = Reader([{"p": (1, "a")}, {"q": (2, "go")}, {"r": (3, None)}, {}], [3])
        late = Reader([{"p": (1, "a")}, {"q": (2, None)}, {"r": (3, "go")}, {}], [3])
        slot = ("slot", "x", Language.of("a", "a"))
        two = Document.of_page(Template(early, [slot, ("piece", (("q", "go"), ("r", None)))]), "pqr")
        self.assertRaises(NoWay, moved, two, late)
        self.assertEqual(moved(Document.of_page(Template(early, [slot, GO]), "pqr"), late).words(), ["p", "qr"])
        said = Document.of_page(Template(self.ONE, self.PARTS), "pr")
        self.assertEqual(moved(said, renamed).page, "ps")

    def test_the_new_document_stands_if_the_new_template_is_sealed(self):
        loose = Reader([{"q": (1, "go"), "r": (2, "go")}, {"p": (3, "a")}, {"p": (3, "a")}, {}], [3])
        strict = Reader([{"q": (1, "go"), "r": (2, "go")}, {"p": (3, "a")}, {"p": (3, "a"), "q": (3, "b")}, {}], [3])
        document = Document.of_page(Template(loose, [GO, ("slot", "x", BOTH)]), "qp")
        self.assertIs(is_sealed(Template(strict, document.template.parts())), True)
        found = moved(document, strict)
        self.assertEqual((found.page, found.stands(), document.stands()), ("rp", True, Document.of_page(document.template, "qp").stands()))
        self.assertEqual(found.change("x", "b"), ())
        self.assertEqual((found.page, document.page), ("rq", "qp"))

    def test_fewer_words_come_before_shorter_pages(self):
        reader = Reader([{"s": (3, "a"), "q": (1, "a")}, {"r": (2, "go")}, {}, {"t": (4, None)}, {"t": (5, None), "r": (2, "go")}, {}], [2])
        document = Document(Template(self.ONE, self.PARTS), {"x": "a"})
        self.assertEqual(moved(document, reader).page, "qr")
        longer = Reader([{"q": (1, "a"), "s": (3, "a")}, {"t": (2, "go")}, {}, {"t": (4, None)}, {"r": (2, "go")}], [2])
        # The word r is kept behind a longer word of the slot.
        self.assertEqual(moved(document, longer).words(), ["st", "r"])


if __name__ == "__main__":
    unittest.main()
