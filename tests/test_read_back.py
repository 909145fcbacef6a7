"""[4] The guarantees over the whole program: what is written, in whatever way, is read back; and names do not matter."""

import itertools
import random
import unittest

from sealedslots.changed import find_changed_filling, find_difference, moved
from sealedslots.documents import Document
from sealedslots.doors import Door, is_writable
from sealedslots.edits import disturbing, reach, rewrites
from sealedslots.errors import NoWay
from sealedslots.exchange import exchange, parting_context
from sealedslots.filling import find_unfillable, is_filled, least_filling, plain_filling, texts_in
from sealedslots.languages import Language
from sealedslots.nested import Nesting, filling_inside, find_uncarried, is_sealed_inside
from sealedslots.pages import reading
from sealedslots.readers import Reader
from sealedslots.sealing import is_sealed
from sealedslots.several import common_page, decided_after, least_continuation, strays_at
from sealedslots.sorter import Sorter
from sealedslots.templates import Template
from sealedslots.texts import parse_template, template_text
from sealedslots.vectors import sealing_vectors
from sealedslots.workshop import Workshop
from sealedslots.writers import PageWriter
from tests.cases import Case, made
from tests.edit_samples import choosing_templates, layered_templates
from tests.exchange_samples import made_kinds, made_parts, random_exchanges
from tests.samples import accepts, words
from tests.several_samples import random_pairs
from tests.slow_fill import slots_of, texts_by_size
from tests.template_samples import random_templates

# Other names in the same order, so that all orders of signs stay.
SIGNS = dict(zip("pqrstu", "cdeghi"))
TEXTS = dict(zip("abc", "kmx"))
NAMES = {"go": "begin", "stop": "what", "other": "unknown", None: None, **TEXTS}


def samples(seed, count):
    """(spec, parts, machines, Template) with slots; some templates are sealed."""
    every = itertools.chain(random_templates(seed, count, page_signs="pqrst"),
                            ((spec, parts, machines) for spec, parts, machines, _, _ in layered_templates(seed + 1, count)),
                            ((spec, parts, machines) for spec, parts, machines, _, _ in choosing_templates(seed + 2, count // 4)))
    for spec, parts, machines in every:
        if machines:
            yield spec, parts, machines, Template(made(spec), parts)


def some_texts(rng, parts, machines):
    found = texts_by_size(parts, machines, 4)
    return dict(zip(slots_of(parts), rng.choice(found))) if found else None


class ReadBackTest(Case):
    def check(self, template, texts, page):
        self.assertEqual(reading(template.reader, page), template.row(texts))
        self.assertIs(is_filled(template, texts, page), True)
        self.assertEqual(texts_in(template, page), texts)

    def test_writers_documents_and_changes(self):
        rng, counts = random.Random(501), {"vector": 0, "changes": 0, "moved": 0}
        for spec, parts, machines, template in samples(502, 250):
            texts = some_texts(rng, parts, machines)
            if not is_sealed(template) or texts is None:
                continue
            for vector in sealing_vectors(template):
                writer = PageWriter(template, vector)
                for name in template.slots():
                    for sign in texts[name]:
                        writer.feed(sign)
                    writer.end_slot()
                self.check(template, texts, writer.page)
                counts["vector"] += 1
            document = Document(template, texts)
            self.check(template, texts, document.page)
            for _ in range(5):
                slot, more = rng.choice(template.slots()), some_texts(rng, parts, machines)
                # A sealed template and a document that stands: no part ahead is rewritten.
                self.assertEqual(rewrites(document, slot, more[slot])[0], 0)
                document.change(slot, more[slot])
                texts[slot] = more[slot]
                self.check(template, texts, document.page)
                counts["changes"] += 1
            try:
                other = moved(document, Reader(*self.turned(spec)))
                self.check(other.template, texts, other.page)
                counts["moved"] += 1
            except NoWay:
                pass
        self.assertGreater(min(counts.values()), 40, counts)

    def turned(self, spec):
        """The reader with the first two page signs of each state exchanged."""
        states = []
        for moves in spec[0]:
            signs = sorted(moves)[:2]
            states.append({signs[1 - signs.index(sign)] if len(signs) == 2 and sign in signs else sign: move for sign, move in moves.items()})
        return states, spec[1]

    def test_nestings(self):
        rng, many = random.Random(503), 0
        for spec, parts, machines, template in samples(504, 300):
            signs = template.reader.page_signs()
            if len(signs) > 4 or not is_sealed(template):
                continue
            # Outside, each sign is written as one of two signs, with a silent sign between.
            outer = Reader([{**{page: (1, told) for page, told in zip("abcd", signs)}, "x": (0, None)},
                            {**{page: (0, told) for page, told in zip("bcde", signs)}, "x": (1, None)}])
            if len(outer.page_signs()) > 6 or 2 * len(spec[0]) > 12:
                continue
            nesting = Nesting(Door(outer, 0, [0, 1], Language.every(signs)), template.reader)
            texts = some_texts(rng, parts, machines)
            if texts is None or not is_sealed_inside(nesting, template):
                continue
            page = filling_inside(nesting, template, texts)
            self.assertEqual(reading(nesting.reader, page), template.row(texts))
            outside = nesting.told_outside(page)
            self.check(template, texts, outside)
            self.assertTrue(outside in nesting.door.language and is_writable(nesting.door, outside))
            many += 1
        self.assertGreater(many, 20)

    def test_workshops(self):
        rng, many = random.Random(505), 0
        for spec, parts, machines, template in samples(506, 120):
            texts = some_texts(rng, parts, machines)
            if not is_sealed(template) or texts is None:
                continue
            workshop = Workshop()
            workshop.execute("define t\n" + template_text(template))
            self.assertEqual(workshop.thing("t"), template)
            page = workshop.execute(" ".join(["write p t"] + [f"{slot}={text or '-'}" for slot, text in texts.items()]))
            self.check(template, texts, page.replace("-", ""))
            slot, more = rng.choice(template.slots()), some_texts(rng, parts, machines)
            page = workshop.execute(f"change p {slot}={more[slot] or '-'}")
            self.check(template, {**texts, slot: more[slot]}, page.replace("-", ""))
            workshop.execute("undo")
            self.check(template, texts, workshop.thing("p").page)
            many += 1
        self.assertGreater(many, 30)


def renamed_word(word, names):
    return None if word is None else "".join(names[sign] for sign in word)


class Renamed:
    """A reader, its templates and texts with other names of signs and marks, and with the states in another sequence."""

    def __init__(self, rng, spec):
        states, ends, start = spec
        self.places = list(range(len(states)))
        rng.shuffle(self.places)
        turned = sorted(range(len(states)), key=lambda state: self.places[state])
        self.spec = ([{SIGNS[sign]: (self.places[after], NAMES[told]) for sign, (after, told) in states[state].items()} for state in turned],
                     [self.places[state] for state in ends], self.places[start])

    def language(self, machine):
        signs, states, members = machine
        return Language("".join(TEXTS[sign] for sign in signs), [{TEXTS[sign]: after for sign, after in moves.items()} for moves in states], members)

    def parts(self, parts, machines):
        found = []
        for part in parts:
            if part[0] == "slot":
                found.append(("slot", part[1] + "x", self.language(machines[part[1]])))
            elif part[0] == "said":
                found.append(("said", tuple(NAMES[mark] for mark in part[1])))
            else:
                found.append(("piece", tuple((SIGNS.get(sign, "z"), NAMES[told]) for sign, told in part[1])))
        return found

    def template(self, parts, machines):
        return Template(made(self.spec), self.parts(parts, machines))

    def page(self, page):
        return renamed_word(page, SIGNS)

    def texts(self, texts):
        return None if texts is None else {name + "x": renamed_word(text, TEXTS) for name, text in texts.items()}

    def states(self, states):
        return tuple(sorted(self.places[state] for state in states))


class NamesTest(Case):
    def test_templates_and_documents(self):
        rng, counts = random.Random(511), {"sealed": 0, "disturbing": 0, "changes": 0}
        for spec, parts, machines, template in samples(512, 200):
            other = Renamed(rng, spec)
            renamed = other.template(parts, machines)
            self.assertIs(is_sealed(renamed), is_sealed(template))
            self.assertEqual(sealing_vectors(renamed), sealing_vectors(template))
            self.assertEqual(find_unfillable(renamed), other.texts(find_unfillable(template)))
            texts = some_texts(rng, parts, machines)
            if texts is None:
                continue
            page = least_filling(template, texts)
            self.assertEqual(least_filling(renamed, other.texts(texts)), other.page(page))
            if is_sealed(template):
                self.assertEqual(plain_filling(renamed, other.texts(texts)), other.page(plain_filling(template, texts)))
                counts["sealed"] += 1
            for word in list(words("pqr", 2)):
                self.assertEqual(least_continuation(renamed, other.page(word)), other.page(least_continuation(template, word)))
                self.assertEqual(strays_at(renamed, other.page(word)), strays_at(template, word))
            found, wanted = disturbing(renamed), disturbing(template)
            self.assertEqual(found is None, wanted is None)
            counts["disturbing"] += wanted is not None
            if page is not None:
                self.check_documents(rng, template, renamed, other, page, machines, counts)
        self.assertGreater(min(counts.values()), 15, counts)

    def check_documents(self, rng, template, renamed, other, page, machines, counts):
        one, two = Document.of_page(template, page), Document.of_page(renamed, other.page(page))
        for _ in range(3):
            self.assertEqual(two.words(), [other.page(word) for word in one.words()])
            self.assertEqual(two.states(), [other.places[state] for state in one.states()])
            self.assertEqual((two.stands(), two.texts()), (one.stands(), other.texts(one.texts())))
            slot = rng.choice(template.slots())
            text = rng.choice([text for text in words("ab", 3) if accepts(machines[slot], text)] or [None])
            if text is None:
                return
            new = renamed_word(text, TEXTS)
            self.assertEqual(rewrites(two, slot + "x", new), rewrites(one, slot, text))
            self.assertEqual(reach(two, slot + "x", new, 1, 1), [other.states(states) for states in reach(one, slot, text, 1, 1)])
            if rewrites(one, slot, text) is None:
                return
            self.assertEqual(two.change(slot + "x", new), one.change(slot, text))
            counts["changes"] += 1

    def test_several_templates(self):
        rng, pages = random.Random(513), 0
        for spec, ((one, first), (two, second)) in random_pairs(514, 150):
            other = Renamed(rng, spec)
            if any(part[0] == "piece" and any(sign not in SIGNS for sign, _ in part[1]) for part in one.parts() + two.parts()):
                continue
            machines = [self.machines(template) for template in (one, two)]
            new = [other.template(template.parts(), known) for template, known in zip((one, two), machines)]
            page = common_page(one, two)
            self.assertEqual(common_page(*new), other.page(page))
            self.assertEqual(decided_after(*new), decided_after(one, two))
            if page is None:
                sorters = Sorter([one, two]), Sorter(new)
                for sign in rng.choices("pqr", k=6):
                    self.assertEqual(sorters[1].feed(SIGNS[sign]), sorters[0].feed(sign))
                    self.assertEqual((sorters[1].sure, sorters[1].strayed_at, sorters[1].winner()),
                                     (sorters[0].sure, sorters[0].strayed_at, sorters[0].winner()))
                    self.assertEqual(sorters[1].texts_so_far(), other.texts(sorters[0].texts_so_far()))
            else:
                pages += 1
        self.assertGreater(pages, 8)

    def machines(self, template):
        found = {}
        for name in template.slots():
            language = template.language_of(name)
            states = [{sign: language.move(state, sign) for sign in language.signs} for state in range(len(language))]
            found[name] = language.signs, states, [state for state in range(len(language)) if language.is_member(state)]
        return found

    def test_changed_readers(self):
        rng, found = random.Random(515), 0
        for spec, parts, machines, template in samples(516, 120):
            changed = [dict(moves) for moves in spec[0]], list(spec[1]), spec[2]
            state = rng.randrange(len(changed[0]))
            if not changed[0][state]:
                continue
            sign = rng.choice(sorted(changed[0][state]))
            changed[0][state][sign] = rng.randrange(len(changed[0])), changed[0][state][sign][1]
            other = Renamed(rng, spec)
            # The same places for both readers.
            new = Renamed(rng, changed)
            first = other.template(parts, machines)
            page = find_difference(made(spec), made(changed))
            self.assertEqual(find_difference(made(other.spec), made(new.spec)), other.page(page))
            self.assertEqual(find_changed_filling(first, made(new.spec)), other.page(find_changed_filling(template, made(changed))))
            found += page is not None
        self.assertGreater(found, 40)

    def test_exchanges_and_doors(self):
        rng, counts = random.Random(517), {True: 0, False: 0}
        for spec, kinds, one, two in random_exchanges(518, 120, chain=True):
            other = Renamed(rng, spec)
            new_kinds = [(other.language(machine), entry) for machine, entry in kinds]
            machines = {number: machine for number, (machine, _) in enumerate(kinds)}

            def renamed_row(row):
                return [("slot", part[1], other.language(machines[part[2]])) if part[0] == "slot" else other.parts([part], {})[0] for part in row]

            first = exchange(made(spec), made_kinds(kinds), made_parts(kinds, one), made_parts(kinds, two))
            second = exchange(made(other.spec), new_kinds, renamed_row(one), renamed_row(two))
            counts[first is None] += 1
            if first is None:
                self.assertIsNone(second)
                sizes = [len(head) + len(tail) for head, tail in [
                    parting_context(made(spec), made_kinds(kinds), made_parts(kinds, one), made_parts(kinds, two)),
                    parting_context(made(other.spec), new_kinds, renamed_row(one), renamed_row(two))]]
                self.assertEqual(sizes[0], sizes[1])
                continue
            tails = sorted((other.states(chosen), free) for chosen, free in first[0])
            pairs = sorted((other.states(left), other.states(right), free) for left, right, free in first[1])
            self.assertEqual(second, (tails, pairs))
        self.assertGreater(min(counts.values()), 5, counts)

    def test_carried_templates(self):
        rng, counts = random.Random(519), {True: 0, False: 0}
        for spec, parts, machines, template in samples(520, 120):
            signs = template.reader.page_signs()
            if not 1 <= len(signs) <= 4:
                continue
            other = Renamed(rng, spec)
            outer = [{page: (rng.randrange(2), told) for page, told in zip("pqrs", signs)} for _ in range(2)]
            language = rng.choice([Language.every(signs), Language(signs, [{sign: 1 for sign in signs}, {sign: 0 for sign in signs}], [1])])
            new_signs = "".join(SIGNS[sign] for sign in signs)
            states = [{SIGNS[sign]: language.move(state, sign) for sign in signs} for state in range(len(language))]
            new_language = Language(new_signs, states, [state for state in range(len(language)) if language.is_member(state)])
            new_outer = [{page: (after, SIGNS[told]) for page, (after, told) in moves.items()} for moves in outer]
            behind = rng.choice([[0], [0, 1], [1]])
            found = find_uncarried(Door(Reader(outer), 0, behind, language), template)
            new = find_uncarried(Door(Reader(new_outer), 0, behind, new_language), other.template(parts, machines))
            self.assertEqual(new, other.page(found))
            counts[found is None] += 1
        self.assertGreater(min(counts.values()), 8, counts)


class TextsTest(unittest.TestCase):
    def test_templates_as_texts(self):
        for spec, parts, machines, template in samples(521, 60):
            self.assertTrue(parse_template(template_text(template)) == template)


if __name__ == "__main__":
    unittest.main()
