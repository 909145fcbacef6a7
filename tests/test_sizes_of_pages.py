"""The largest readers, languages and templates, for exchanges, nestings, documents, several templates and workshops."""

import itertools
import random
import time
import unittest

from sealedslots.changed import find_changed_filling, find_difference, is_pair_lags, moved, pair_lags
from sealedslots.documents import Document
from sealedslots.doors import Door
from sealedslots.edits import disturbing, is_disturbing, reach, rewrites
from sealedslots.errors import TooLarge
from sealedslots.exchange import exchange, is_exchange, is_parting, parting_context, replaces, set_ahead
from sealedslots.filling import find_unfillable, least_filling, texts_in
from sealedslots.languages import Language
from sealedslots.nested import Nesting, filling_inside, find_uncarried, sets_inside
from sealedslots.readers import Reader
from sealedslots.sealing import is_sealed
from sealedslots.several import (apartness, common_page, decided_after, goes_on, is_apartness, least_continuation, stands_behind,
                                 strays_at)
from sealedslots.sorter import Sorter
from sealedslots.templates import Template
from sealedslots.texts import parse_template, template_text
from sealedslots.workshop import Workshop
from tests.test_sizes import SECONDS, six_states, swapping_reader, template_of, turning_reader

GO, NOTHING = ("said", ("go",)), ("said", ())
TEXTS = {name: "ab" * 28 + "b" * at for at, name in enumerate("wxyz")}
READERS = [(turning_reader([0, 1, 2, 3, 4, 5]), "abcd"), (turning_reader(list(range(12))), "ab"), (swapping_reader(), "ab")]


def six_state_reader(last):
    """Five states that are turned, swapped and led to one another, with marks, with texts or silently; one state alone."""
    states = [{"p": ((state + 1) % 5, None), "q": ({0: 1, 1: 0}.get(state, state), None), "r": (0 if state == 1 else state, "go"),
               "s": ((state + 1) % 5, "a"), "t": ({0: 1, 1: 0}.get(state, state), "b"), "u": (0 if state == 1 else state, "stop")}
              for state in range(5)]
    return Reader(states + [last], [0, 1], start=5)


class SizesTest(unittest.TestCase):
    def quick(self, call):
        before = time.process_time()
        result = call()
        self.assertLess(time.process_time() - before, SECONDS)
        return result

    def test_exchanges(self):
        kinds = [(six_states("abcd", without), entry) for without, entry in enumerate([4, 1, 2, 3])]
        row = [part for language, _ in kinds for part in (("slot", "x", language), GO, NOTHING)]
        piece, other = [("piece", (("r", "go"),))], [("piece", (("p", None), ("q", None)))]
        pairs = 0
        for last in [{}, {"p": (0, "go"), "q": (5, None)}]:
            reader = six_state_reader(last)
            for one, two in [(row, row), (piece, other), (row, piece), (piece, row), ([], [NOTHING])]:
                found = self.quick(lambda: exchange(reader, kinds, one, two))
                self.assertIs(self.quick(lambda: replaces(reader, kinds, one, two)), found is not None)
                context = self.quick(lambda: parting_context(reader, kinds, one, two))
                if found is None:
                    self.assertIs(self.quick(lambda: is_parting(reader, kinds, one, two, context)), True)
                else:
                    self.assertIs(self.quick(lambda: is_exchange(reader, kinds, one, two, found)), True)
                    pairs = max(pairs, len(found[1]))
        self.assertGreater(pairs, 1000)

    def test_rows_of_large_readers(self):
        for reader, signs in READERS:
            for entries in [(4, 3, 2, 1), (3, 3, 3, 3), (4, 4, 4, 4)]:
                kinds = [(six_states(signs, without), entry) for without, entry in enumerate(entries)]
                row = [part for language, _ in kinds for part in (("slot", "x", language), GO, NOTHING)]
                self.quick(lambda: set_ahead(reader, kinds, row, list(range(0, 12, 2))))
                head = tuple([("slot", "x", kinds[0][0]), GO] * 40)
                self.quick(lambda: is_parting(reader, kinds, row, [GO], (head, (GO, ("slot", "y", kinds[1][0])))))
                tails = [((state,), True) for state in range(12)] + [(tuple(sorted(reader.ends())), True)]
                self.quick(lambda: is_exchange(reader, kinds, row, [GO], (tails, [])))

    def test_nestings(self):
        for entries in [list(range(12)), [0, 5]]:
            outer = Reader([{"p": ((state + 1) % 12, "a"), "q": ({0: 1, 1: 0}.get(state, state), "b"), "r": (state * 5 % 12, "c"),
                             "s": ((state + 5) % 12, "d"), "t": ((state + 1) % 12, None), "u": (0 if state == 1 else state, None)}
                            for state in range(12)])
            inner = Reader([{"a": ((state + 1) % 12, "a"), "b": (state, "b"), "c": (state, "go"), "d": (state, "stop")} for state in range(12)],
                           list(range(12)))
            door = Door(outer, 0, entries, six_states("abcd", 1))
            with self.assertRaises(TooLarge):
                self.quick(lambda: Nesting(door, inner))
            self.quick(lambda: find_uncarried(door, template_of(inner, "ab")))
        one = Reader([{"a": (0, "a"), "b": (0, "b"), "c": (0, "go"), "d": (0, "stop")}], [0])
        nesting = self.quick(lambda: Nesting(Door(outer, 0, list(range(12)), Language.every("abcd")), one))
        self.assertEqual(len(nesting), 12)
        template = template_of(one, "ab")
        for vector in [(4,) * 4, (3,) * 4, (0, 1, 2, 3)]:
            self.quick(lambda: sets_inside(nesting, template, vector))
        self.quick(lambda: filling_inside(nesting, template, TEXTS))

    def test_carried_templates(self):
        inner = Reader([{"a": ((state + 1) % 12, "a"), "b": (state, "b"), "c": (state, "go")} for state in range(12)], list(range(12)))
        template = Template(inner, [part for at, name in enumerate("wxyz") for part in (("slot", name, six_states("ab", at)), GO, NOTHING)])
        # Texts lead to many sets of states, none of which lies inside another one.
        outer = Reader([{"p": ((state + 1) % 11, "a"), "q": ({0: 1, 1: 0}.get(state, state), "b"), "s": (state, "c")} for state in range(11)] + [
            {"p": (0, None), "q": (1, None), "r": (2, None), "s": (3, None), "t": (4, None), "u": (11, "d")}], [0])
        for behind, is_found in [(list(range(12)), False), ([0, 1, 2, 3, 4, 5], True)]:
            for language in [Language.every("abc"), six_states("abc", 1)]:
                found = self.quick(lambda: find_uncarried(Door(outer, 11, behind, language), template))
                if is_found or language != Language.every("abc"):
                    self.assertIsNotNone(texts_in(template, found))
                else:
                    self.assertIsNone(found)

    def test_documents(self):
        for reader, signs in READERS:
            template = template_of(reader, signs)
            page = least_filling(template, TEXTS)
            document = self.quick(lambda: Document(template, TEXTS) if is_sealed(template) else Document.of_page(template, page))
            self.assertEqual(self.quick(document.texts), TEXTS)
            self.quick(document.stands)
            self.assertIsNotNone(self.quick(lambda: rewrites(document, "x", "ab" * 29)))
            self.quick(lambda: document.change("x", "ab" * 29))
            self.quick(lambda: [document.change("wxyz"[number % 4], "ab" * 22 + "b" * (number % 3)) for number in range(40)])
            self.quick(lambda: reach(document, "y", "ab" * 29, 2, 3))
            found = self.quick(lambda: disturbing(template))
            self.assertEqual(found is None, is_sealed(template) or find_unfillable(template) is not None)
            other = Reader([{sign: (after, told) for sign, after, told in reader.moves(state)} for state in range(12)], reader.ends(),
                           start=5 if reader.start == 0 else 0)
            self.assertEqual(self.quick(lambda: moved(document, other)).texts(), document.texts())

    def test_disturbing_changes(self):
        # The first mark leads to one of ten states, in each of which other texts are written.
        states = [{sign: (at + 1, "go") for at, sign in enumerate("pqrstu")}]
        states += [{**{"pq"[k]: (7, "ab"[k]) for k in range(2) if at >> k & 1 or at > 3}, "u": (at, None)} for at in range(6)]
        states += [{"s": (8, "go")}, {"p": (9, "a"), "q": (9, "b")}, {"t": (10, "stop")}, {}]
        both = Language.of("ab", "a", "b")
        template = Template(Reader(states, [10]), [GO, NOTHING, ("slot", "x", both), NOTHING, GO, NOTHING, ("slot", "y", both), ("said", ("stop",))])
        found = self.quick(lambda: disturbing(template))
        if found is not None:
            self.assertIs(self.quick(lambda: is_disturbing(template, found)), True)

    def test_several_templates(self):
        for reader, signs in READERS:
            template = template_of(reader, signs)
            parts = template.parts()[:-1]
            others = [Template(reader, parts + [("said", ("go",) * (many - 1) + ("stop",) * (many % 2 + 1))]) for many in range(2, 6)]
            others.append(Template(reader, parts + [("said", ("go",) * 6)]))
            page = least_filling(template, TEXTS)
            self.assertIs(self.quick(lambda: goes_on(template, page[:200])), True)
            self.assertTrue(self.quick(lambda: stands_behind(template, page)))
            self.assertIsNotNone(self.quick(lambda: least_continuation(template, page[:100])))
            self.assertEqual(self.quick(lambda: strays_at(template, page + "u")), len(page) + 1)
            self.assertIsNone(self.quick(lambda: common_page(template, others[0])))
            self.assertIsNotNone(self.quick(lambda: common_page(template, template)))
            found = self.quick(lambda: apartness(template, others[0]))
            self.assertIs(self.quick(lambda: is_apartness(template, others[0], found)), True)
            self.quick(lambda: decided_after(template, others[0]))
            sorter = self.quick(lambda: Sorter([template] + others))
            self.quick(lambda: [sorter.feed(sign) for sign in page])
            self.assertEqual((sorter.winner(), sorter.sure is None or sorter.texts_so_far() == TEXTS), (0, True))
            self.quick(sorter.clone)

    def test_patterns(self):
        # Pieces that are looked for behind any silent signs.
        rng = random.Random(521)
        reader = Reader([{**{sign: (rng.randrange(12), None) for sign in "pqrs"}, "t": (state, "a"), "u": (state, "go")} for state in range(12)],
                        list(range(12)))
        templates = [Template(reader, [part for _ in range(5) for part in (NOTHING, ("piece", tuple((rng.choice("pqrs"), None) for _ in range(12))))] + [
            NOTHING]) for _ in range(2)]
        page = self.quick(lambda: common_page(*templates))
        for template in templates:
            self.assertEqual(self.quick(lambda: texts_in(template, page)), {})
            self.assertEqual(len(self.quick(lambda: Document.of_page(template, page)).words()), 11)
        self.assertIsNone(self.quick(lambda: decided_after(*templates)))

    def test_changed_readers(self):
        for reader, signs in READERS:
            template = template_of(reader, signs)
            self.assertIsNone(self.quick(lambda: find_difference(reader, reader)))
            found = self.quick(lambda: pair_lags(reader, reader))
            self.assertIs(self.quick(lambda: is_pair_lags(reader, reader, found)), True)
            self.assertIsNone(self.quick(lambda: find_changed_filling(template, reader)))
            for state, sign in itertools.product([3, 11], "ps"):
                states = [{name: (after, told) for name, after, told in reader.moves(at)} for at in range(12)]
                states[state][sign] = (0, "stop" if sign == "s" else "b")
                other = Reader(states, reader.ends())
                self.quick(lambda: find_difference(reader, other))
                self.quick(lambda: find_changed_filling(template, other))

    def test_workshops(self):
        for reader, signs in READERS[1:]:
            template, workshop = template_of(reader, signs), Workshop()
            text = self.quick(lambda: template_text(template))
            self.assertTrue(self.quick(lambda: parse_template(text)) == template)
            written = " ".join(f"{slot}={text}" for slot, text in TEXTS.items())
            self.quick(lambda: workshop.run(f"define t\n{text}", "sealed t", "vectors t", f"write p t {written}", "texts p", "show p"))
            self.quick(lambda: workshop.run(*[f"change p x={'ab' * number}" for number in range(5, 25) if number % 6 != 1], *["undo"] * 10))
            self.assertTrue(self.quick(lambda: Workshop.replay(workshop.log())) == workshop)


if __name__ == "__main__":
    unittest.main()
