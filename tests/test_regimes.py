"""[29] Sets ahead with regimes, and the pages that are written with them."""

import itertools
import random
import unittest

from sealedslots.doors import Door
from sealedslots.errors import InvalidRegimes, InvalidTexts, NotSealed
from sealedslots.filling import is_filled, plain_filling
from sealedslots.given import GivenWriter
from sealedslots.languages import Language
from sealedslots.pages import reading
from sealedslots.readers import Reader
from sealedslots.regimes import filling_with, is_sealed_with, sets_with
from sealedslots.templates import Template
from sealedslots.vectors import is_sealed_under, sets_under
from sealedslots.writers import PageWriter
from tests.cases import Case, made
from tests.given_samples import random_writer, telling_reader
from tests.samples import OTHER_VALUES, accepts, random_machines
from tests.slow import part_ends
from tests.slow_fill import texts_by_size
from tests.slow_games import is_written
from tests.slow_given import Walk
from tests.template_samples import random_templates

READER = Reader([{"q": (1, "begin")}, {"p": (1, "a"), "q": (2, "end"), "r": (3, None)}, {}, {"q": (1, "b"), "r": (1, "a")}], [2])
BEGIN, END, GO = ("piece", (("q", "begin"),)), ("piece", (("q", "end"),)), ("said", ("go",))
EVERY = Language.every("ab")
TEMPLATE = Template(READER, [BEGIN, ("slot", "text", EVERY), END])
WRITER = GivenWriter.table({"a": "rr", "b": "rq"})


def given_templates(seed, count):
    """(spec, parts, machines, writers): the writers are often faithful, ahead of the marks that are told by s."""
    rng = random.Random(seed)
    machines = [machine for machine in random_machines(seed, 60, most_states=3)
                if any(accepts(machine, text) for text in ["", "a", "b", "ab"])]
    for _ in range(count):
        states = telling_reader(rng)
        for moves in states:
            moves.update({sign: (rng.randrange(len(states)), "go") for sign in "st" if rng.random() < 0.9})
        parts, chosen, writers = [], {}, {}
        for name in "xyz"[:rng.choice([1, 1, 2, 2, 3])]:
            if parts:
                parts.append(GO)
            chosen[name] = rng.choice(machines)
            writers[name] = random_writer(rng)
            parts.append(("slot", name, Language(*chosen[name])))
        parts += [("said", ())] * rng.randint(0, 1)
        ends = [state for state in range(len(states)) if rng.random() < 0.8]
        yield (states, ends, rng.randrange(len(states))), parts, chosen, writers


def slow_sets_with(spec, parts, machines, regimes):
    """[29], with given writers as slow_given has them."""
    states, found = spec[0], [tuple(sorted(spec[1]))]
    for part in reversed(parts):
        behind = found[-1]
        if part[0] != "slot":
            found.append(tuple(state for state in range(len(states)) if part_ends(states, part, state) & set(behind)))
        elif isinstance(regimes[part[1]], int):
            found.append(tuple(state for state in range(len(states))
                               if is_written(states, state, behind, machines[part[1]], regimes[part[1]])))
        else:
            found.append(tuple(state for state in range(len(states))
                               if Walk(states, state, behind, regimes[part[1]], machines[part[1]]).lags is not None))
    return found[::-1]


def as_given(regimes):
    return {name: regime if isinstance(regime, int) else GivenWriter(*regime[:3], states=regime[3])
            for name, regime in regimes.items()}


class SlowTest(Case):
    def test_entries_alone(self):
        for spec, parts, machines in random_templates(231, 150):
            template = Template(made(spec), parts)
            names = template.slots()
            for vector in itertools.product([0, 2, 4], repeat=len(names)):
                regimes = dict(reversed(list(zip(names, vector))))
                self.assertEqual(sets_with(template, regimes), sets_under(template, vector))
                self.assertIs(is_sealed_with(template, regimes), is_sealed_under(template, vector))
                for texts in texts_by_size(parts, machines, 3)[:3]:
                    chosen = dict(zip(names, texts))
                    if not is_sealed_under(template, vector):
                        self.assertRaises(NotSealed, filling_with, template, regimes, chosen)
                        continue
                    page = filling_with(template, regimes, chosen)
                    self.assertEqual(page, self.written(PageWriter(template, vector), texts))
                    if set(vector) <= {4}:
                        self.assertEqual(page, plain_filling(template, chosen))

    def written(self, writer, texts):
        for text in texts:
            for sign in text:
                writer.feed(sign)
            writer.end_slot()
        return writer.page

    def test_given_writers(self):
        rng = random.Random(232)
        counts = {"sealed": 0, "not": 0, "mixed": 0}
        for spec, parts, machines, writers in given_templates(233, 400):
            template = Template(made(spec), parts)
            regimes = {name: writer if rng.random() < 0.75 else rng.randint(0, 4) for name, writer in writers.items()}
            given = as_given(regimes)
            wanted = slow_sets_with(spec, parts, machines, regimes)
            found = sets_with(template, given)
            self.assertEqual((type(found), found), (list, wanted))
            sealed = spec[2] in wanted[0]
            self.assertIs(is_sealed_with(template, given), sealed)
            self.assertIs(is_sealed_with(regimes=dict(reversed(given.items())), template=template), sealed)
            counts["sealed" if sealed else "not"] += 1
            counts["mixed"] += sealed and len({type(regime) for regime in given.values()}) > 1
            for texts in texts_by_size(parts, machines, 3)[:8]:
                chosen = dict(zip(template.slots(), texts))
                if not sealed:
                    with self.assertRaises(NotSealed) as caught:
                        filling_with(template, given, chosen)
                    self.assertIsNone(caught.exception.vector)
                    continue
                page = filling_with(template, given, chosen)
                self.assertEqual(reading(template.reader, page), template.row(chosen))
                self.assertIs(is_filled(template, chosen, page), True)
                self.assertEqual(filling_with(texts=chosen, regimes=given, template=template), page)
                if len(template.slots()) == 1 and parts[-1][0] == "slot" and isinstance(given["x"], GivenWriter):
                    self.assertEqual(page, given["x"].output(texts[0]))
        self.assertGreater(min(counts["sealed"], counts["not"]), 50, counts)
        self.assertGreater(counts["mixed"], 5, counts)


class ExamplesTest(Case):
    def test_examples(self):
        self.assertEqual(sets_with(TEMPLATE, {"text": WRITER}), [(0,), (1,), (1,), (2,)])
        self.assertIs(is_sealed_with(TEMPLATE, {"text": WRITER}), True)
        self.assertEqual(filling_with(TEMPLATE, {"text": WRITER}, {"text": "ab"}), "qrrrqq")
        self.assertEqual(filling_with(TEMPLATE, {"text": 0}, {"text": "ab"}), "qprqq")
        self.assertIs(is_sealed_with(TEMPLATE, {"text": GivenWriter.raw("ab")}), False)
        self.assertEqual(sets_with(TEMPLATE, {"text": GivenWriter.raw("ab")}), [(), (), (1,), (2,)])
        # From 3 the output of this writer is read as b, but then as a mark.
        wrong = GivenWriter("", {(0, "b"): (0, "qq")}, {0: ""})
        self.assertEqual(sets_with(Template(READER, [("slot", "x", Language.of("ab", "b"))]), {"x": wrong}), [(), (2,)])
        right = GivenWriter("r", {(0, "b"): (0, "q")}, {0: ""})
        template = Template(READER, [("slot", "x", Language.of("ab", "b")), ("said", ("end",))])
        self.assertEqual(sets_with(template, {"x": right}), [(1,), (1,), (2,)])

    def test_templates_without_slots(self):
        template = Template(READER, [BEGIN, END])
        self.assertEqual((sets_with(template, {}), is_sealed_with(template, {})), ([(0,), (1,), (2,)], True))
        self.assertEqual(filling_with(template, {}, {}), "qq")

    def test_several_slots(self):
        reader = Reader([{"p": (0, "a"), "q": (0, "b"), "r": (1, "go")}, {"p": (1, "a"), "q": (1, "b"), "s": (1, None)}], [1])
        template = Template(reader, [("slot", "x", EVERY), GO, ("slot", "y", EVERY)])
        silent = GivenWriter("s", {(0, "a"): (0, "sp"), (0, "b"): (0, "q")}, {0: "ss"})
        plain = GivenWriter.table({"a": "p", "b": "q"})
        for regimes, page in [({"x": plain, "y": silent}, "pqrsspqss"), ({"y": 4, "x": plain}, "pqrpq"), ({"x": 2, "y": silent}, "pqrsspqss")]:
            self.assertEqual(filling_with(template, regimes, {"y": "ab", "x": "ab"}), page)
        self.assertIs(is_sealed_with(template, {"x": silent, "y": plain}), False)
        found = sets_with(template, {"x": plain, "y": 0})
        self.assertEqual(found, [(0,), (0,), (1,), (1,)])
        found.clear()
        self.assertEqual(sets_with(template, {"x": plain, "y": 0}), [(0,), (0,), (1,), (1,)])
        regimes, texts = {"y": silent, "x": plain}, {"y": "a", "x": ""}
        self.assertEqual([filling_with(template, regimes, texts) for _ in range(2)], ["rsspss"] * 2)
        self.assertEqual((list(regimes.items()), list(texts.items())), ([("y", silent), ("x", plain)], [("y", "a"), ("x", "")]))
        self.assertEqual((silent, plain), (GivenWriter("s", {(0, "a"): (0, "sp"), (0, "b"): (0, "q")}, {0: "ss"}),
                                           GivenWriter.table({"a": "p", "b": "q"})))


class ErrorsTest(Case):
    def wrong(self, problem, name, template, regimes):
        for call in [lambda: sets_with(template, regimes), lambda: is_sealed_with(template, regimes),
                     lambda: filling_with(template, regimes, None), lambda: filling_with(template, regimes, {"x": "", "y": ""})]:
            with self.assertRaises(InvalidRegimes) as caught:
                call()
            self.assertEqual((caught.exception.problem, caught.exception.name), (problem, name))

    def test_regimes(self):
        template = Template(READER, [("slot", "x", EVERY), GO, ("slot", "y", EVERY)])
        for value in OTHER_VALUES + ["", 0, (0, 0), [0, 0], WRITER, {"x": 0}, {"x": 0, "z": 0}, {"x": 0, "y": 0, "z": 0}, {"X": 0, "y": 0},
                                     {0: 0, 1: 0}, {None: 0, "x": 0}, {"x", "y"}, [("x", 0), ("y", 0)]]:
            self.wrong("names", None, template, value)
        for value in OTHER_VALUES + [5, -1, True, False, None, "0", [0], (0,), Door, GivenWriter, TEMPLATE, {"x": 0}]:
            self.wrong("regime", "x", template, {"x": value, "y": 0})
            self.wrong("regime", "x", template, {"y": value, "x": value})
            self.wrong("regime", "y", template, {"y": value, "x": WRITER})
            self.wrong("regime", "y", template, {"x": 4, "y": value})
        for value in OTHER_VALUES:
            if value != {}:
                self.wrong("names", None, Template(READER, [BEGIN]), value)

    def test_texts_and_then_seals(self):
        for regimes in [{"text": WRITER}, {"text": GivenWriter.raw("ab")}, {"text": 0}]:
            for texts in OTHER_VALUES + [{"text": "", "x": ""}, {"x": ""}]:
                with self.assertRaises(InvalidTexts) as caught:
                    filling_with(TEMPLATE, regimes, texts)
                self.assertEqual((caught.exception.problem, caught.exception.name), ("names", None))
            for text in OTHER_VALUES + ["c", "abz"]:
                with self.assertRaises(InvalidTexts) as caught:
                    filling_with(TEMPLATE, regimes, {"text": text})
                self.assertEqual((caught.exception.problem, caught.exception.name), ("text", "text"))
        with self.assertRaises(NotSealed) as caught:
            filling_with(TEMPLATE, {"text": GivenWriter.raw("ab")}, {"text": "ab"})
        self.assertIsNone(caught.exception.vector)


if __name__ == "__main__":
    unittest.main()
