"""[14], [15] Sets ahead, sealed templates, and refusals, compared with slow computations."""

import itertools
import random
import unittest

from sealedslots.doors import last_states
from sealedslots.languages import Language, members
from sealedslots.readers import Reader
from sealedslots.sealing import is_refusal, is_sealed, refusal, sets_ahead
from sealedslots.templates import Template
from tests.cases import made
from tests.samples import OTHER_VALUES, accepts, random_readers, words
from tests.slow import ahead, can_win, first_unwritable, last_set, part_ends
from tests.template_samples import random_templates

def outside_of(value, index, spec, parts):
    if index == len(parts):
        return {state for state in range(len(spec[0])) if state not in spec[1]}
    return {state for at, state, _ in value if at == index}


def slow_is_refusal(spec, parts, machines, value):
    """[15] for values of the right form."""
    if not any(at == 0 and state == spec[2] for at, state, _ in value):
        return False
    for at, state, reason in value:
        part, outside = parts[at], outside_of(value, at + 1, spec, parts)
        if part[0] == "slot":
            if not isinstance(reason, str) or not accepts(machines[part[1]], reason):
                return False
            lasts = last_set(spec[0], state, reason)
        else:
            if reason is not None:
                return False
            lasts = part_ends(spec[0], part, state)
        if not lasts <= outside:
            return False
    return True


class ExamplesTest(unittest.TestCase):
    def setUp(self):
        self.reader = Reader([{"q": (1, "begin")}, {"p": (1, "a"), "q": (2, "end"), "r": (3, None)}, {},
                              {"q": (1, "b"), "r": (1, "a")}], [2])
        self.slot = ("slot", "text", Language.every("ab"))
        self.begin, self.end = ("piece", (("q", "begin"),)), ("piece", (("q", "end"),))

    def check(self, parts, sets, reasons, reader=None):
        template = Template(reader or self.reader, parts)
        self.assertEqual(sets_ahead(template), sets)
        self.assertEqual(refusal(template), reasons)
        self.assertIs(is_sealed(template), reasons is None)
        if reasons is not None:
            self.assertIs(is_refusal(template, reasons), True)

    def test_the_example_of_the_document(self):
        self.check([self.begin, self.slot, self.end], [(0,), (1,), (1,), (2,)], None)
        self.assertEqual(sets_ahead(template=Template(self.reader, [self.begin, self.slot, self.end])),
                         [(0,), (1,), (1,), (2,)])

    def test_a_text_that_is_not_written(self):
        language = Language.every("abc")
        self.check([self.begin, ("slot", "x", language), self.end], [(), (), (1,), (2,)],
                   [(0, 0, None), (0, 1, None), (0, 2, None), (0, 3, None), (1, 0, ""), (1, 1, "c"), (1, 2, ""), (1, 3, ""),
                    (2, 0, None), (2, 2, None), (2, 3, None)])

    def test_pieces_and_said_parts(self):
        self.check([("piece", ())], [(2,), (2,)], [(0, 0, None), (0, 1, None), (0, 3, None)])
        self.check([("said", ())], [(2,), (2,)], [(0, 0, None), (0, 1, None), (0, 3, None)])
        self.check([("said", ("begin", "end"))], [(0,), (2,)], None)
        self.check([("said", ("end",)), ("said", ())], [(1,), (2,), (2,)],
                   [(0, 0, None), (0, 2, None), (0, 3, None), (1, 0, None), (1, 1, None), (1, 3, None)])
        self.check([("piece", (("q", "begin"), ("q", "end")))], [(0,), (2,)], None)
        # The piece must tell exactly this: None where the reader tells nothing, and the mark that it tells.
        for piece in [(("q", None), ("q", "end")), (("q", "end"), ("q", "end")), (("p", "begin"), ("q", "end")),
                      (("q", "begin"), ("r", None), ("q", None), ("q", "end"))]:
            self.assertEqual(sets_ahead(Template(self.reader, [("piece", piece)])), [(), (2,)])
        around = Reader([{"q": (1, None)}, {"r": (0, None), "p": (2, "go")}, {"p": (2, "go"), "r": (0, None)}], [2])
        self.check([("said", ("go",))], [(0, 1, 2), (2,)], None, around)
        self.check([("said", ("go",) * 6)], [(0, 1, 2), (2,)], None, around)
        self.check([("piece", (("r", None), ("q", None))), ("said", ("go",))], [(1, 2), (0, 1, 2), (2,)],
                   [(0, 0, None)], around)

    def test_slots_at_the_edges(self):
        reader = Reader([{"p": (0, "a"), "q": (1, "b"), "r": (2, "go")}, {"p": (0, "a"), "r": (2, "go")}, {"p": (2, "a")}], [2])
        every, only = Language.every("ab"), Language.every("a")
        self.check([("slot", "x", only), ("said", ("go",)), ("slot", "y", only)], [(0, 1), (0, 1), (2,), (2,)], None, reader)
        self.check([("slot", "x", every), ("said", ("go",)), ("slot", "y", only)], [(), (0, 1), (2,), (2,)],
                   [(0, 0, "bb"), (0, 1, "b"), (0, 2, ""), (1, 2, None), (2, 0, ""), (2, 1, "")], reader)
        self.check([("slot", "x", only)], [(2,), (2,)], [(0, 0, ""), (0, 1, "")], reader)

    def test_readers_without_ends(self):
        reader = Reader([{"p": (0, "a"), "q": (0, "go")}])
        everything = [(0, 0, None), (1, 0, ""), (2, 0, None)]
        self.check([("said", ("go",)), ("slot", "x", Language.every("a")), ("piece", ())], [(), (), (), ()], everything, reader)

    def test_parts_that_the_reader_does_not_have(self):
        for part in [("piece", (("z", None),)), ("piece", (("q", "other"),)), ("said", ("other",))]:
            self.check([part], [(), (2,)], [(0, 0, None), (0, 1, None), (0, 2, None), (0, 3, None)])


class SlowTest(unittest.TestCase):
    def test_sets_ahead(self):
        counts = {True: 0, False: 0}
        for spec, parts, machines in random_templates(81, 500):
            template = Template(made(spec), parts)
            wanted = ahead(spec, parts, machines)
            found = sets_ahead(template)
            self.assertEqual((type(found), found), (list, wanted))
            self.assertEqual({type(states) for states in found}, {tuple})
            sealed = spec[2] in wanted[0]
            self.assertIs(is_sealed(template), sealed)
            self.assertIs(is_sealed(template=template), sealed)
            counts[sealed] += 1
        self.assertGreater(min(counts.values()), 60)

    def test_writers_that_see_their_own_text_only(self):
        # For languages of a few texts: all texts are tried, and each slot is written without the later ones.
        rng = random.Random(82)
        counts = {True: 0, False: 0}
        options = dict(told=(None, "a", "a", "b", "b", "go"), density=0.9, page_signs="pqrst", most_states=4)
        for spec in random_readers(82, 250, **options):
            texts, parts = {}, [("said", ())]
            for name in ["x", "y"]:
                texts[name] = rng.sample(list(words("ab", 2)), rng.randint(1, 3))
                parts += [("slot", name, Language.of("ab", *texts[name])), rng.choice([("said", ("go",)), ("said", ("go", "go"))])]
            spec = (spec[0], list(range(len(spec[0])))[rng.randint(0, 1):], spec[2])
            template = Template(made(spec), parts)
            wanted = can_win(spec, parts, texts, 0, spec[2])
            self.assertIs(is_sealed(template), wanted)
            self.assertIs(refusal(template) is None, wanted)
            counts[wanted] += 1
        self.assertGreater(min(counts.values()), 20)

    def test_refusals(self):
        texts = 0
        for spec, parts, machines in random_templates(83, 400):
            template = Template(made(spec), parts)
            sets = ahead(spec, parts, machines)
            found = refusal(template)
            if spec[2] in sets[0]:
                self.assertIsNone(found)
                continue
            wanted = []
            for index, part in enumerate(parts):
                for state in range(len(spec[0])):
                    if state not in sets[index]:
                        reason = None
                        if part[0] == "slot":
                            reason = first_unwritable(spec[0], state, sets[index + 1], machines[part[1]])
                            texts += len(reason) > 0
                        wanted.append((index, state, reason))
            self.assertEqual((type(found), found), (list, wanted))
            self.assertIs(is_refusal(template, found), True)
            self.assertTrue(slow_is_refusal(spec, parts, machines, found))
            self.assertEqual(refusal(template=template), wanted)
        self.assertGreater(texts, 100)

    def test_values_of_the_right_form(self):
        rng = random.Random(84)
        counts = {True: 0, False: 0}
        for spec, parts, machines in random_templates(85, 400, most_states=3):
            template = Template(made(spec), parts)
            known = refusal(template) or []
            for _ in range(10):
                value = [refused for refused in known if rng.random() < 0.9]
                for _ in range(rng.choice([0, 0, 1, 2])):
                    value.append((rng.randrange(len(parts)), rng.randrange(len(spec[0])),
                                  rng.choice([None, "", "a", "b", "ab", "ba", "bb"])))
                rng.shuffle(value)
                wanted = slow_is_refusal(spec, parts, machines, value)
                self.assertIs(is_refusal(template, value), wanted, (spec, parts, value))
                if wanted:
                    self.assertIs(is_sealed(template), False)
                counts[wanted] += 1
        self.assertGreater(min(counts.values()), 200)

    def test_other_texts_do_as_well(self):
        others = 0
        for spec, parts, machines in random_templates(86, 200):
            template = Template(made(spec), parts)
            found = refusal(template)
            for at, refused in enumerate(found or []):
                index, state, reason = refused
                if reason is None:
                    continue
                outside = {after for other, after, _ in found if other == index + 1}
                if index + 1 == len(parts):
                    outside = set(range(len(spec[0]))) - set(spec[1])
                for text in members(parts[index][2], 3):
                    wanted = set(last_states(template.reader, state, text)) <= outside
                    value = found[:at] + [(index, state, text)] + found[at + 1:]
                    self.assertIs(is_refusal(template, value), wanted)
                    self.assertIs(is_refusal(template, found + [(index, state, text)]), wanted)
                    others += wanted and text != reason
        self.assertGreater(others, 300)

    def test_sealed_templates_have_no_refusal(self):
        # All lists of the right form, for templates of a few states and parts.
        sealed = 0
        for spec, parts, machines in random_templates(87, 150, most_states=2):
            template = Template(made(spec), parts)
            reasons = [None, "", "a", "b"]
            every = [(index, state, reason) for index in range(len(parts)) for state in range(len(spec[0]))
                     for reason in reasons if (reason is None) == (parts[index][0] != "slot")]
            if len(every) > 8:
                continue
            accepted = 0
            for size in range(len(every) + 1):
                for value in itertools.combinations(every, size):
                    wanted = slow_is_refusal(spec, parts, machines, value)
                    self.assertIs(is_refusal(template, list(value)), wanted)
                    accepted += wanted
            if is_sealed(template):
                self.assertEqual(accepted, 0)
                sealed += 1
        self.assertGreater(sealed, 10)


class IsRefusalTest(unittest.TestCase):
    def setUp(self):
        # From 1, the sign b leads to 2, from which no end is reached by the mark.
        self.reader = Reader([{"p": (1, "go")}, {"p": (1, "a"), "q": (2, "b"), "r": (3, "stop")}, {"p": (2, "a")}, {}], [3])
        self.template = Template(self.reader, [("piece", (("p", "go"),)), ("slot", "x", Language.every("ab")),
                                               ("said", ("stop",)), ("piece", ())])
        self.least = [(0, 0, None), (1, 1, "b"), (2, 2, None)]

    def accepted(self, value, template=None):
        self.assertIs(is_refusal(template or self.template, value), True, value)

    def refused(self, value, template=None):
        self.assertIs(is_refusal(template or self.template, value), False, value)

    def test_accepted(self):
        full = refusal(self.template)
        self.assertEqual(full, [(0, 0, None), (0, 1, None), (0, 2, None), (0, 3, None), (1, 0, ""), (1, 1, "b"), (1, 2, ""),
                                (1, 3, ""), (2, 0, None), (2, 2, None), (2, 3, None), (3, 0, None), (3, 1, None), (3, 2, None)])
        for value in [full, full[::-1], full + full, self.least, self.least[::-1], self.least * 3,
                      [(0, 0, None), (1, 1, "ab"), (2, 2, None)], [(0, 0, None), (1, 1, "bbbb"), (2, 2, None)],
                      self.least + [(1, 1, "aaba")], self.least + [(0, 2, None)], self.least + [(3, 0, None)],
                      self.least + [(1, 0, "a")], self.least + [(1, 2, "")]]:
            self.accepted(value)
        self.assertIs(is_refusal(value=self.least, template=self.template), True)

    def test_each_property_alone(self):
        self.refused([])
        # No tuple with index 0 and the start.
        self.refused(self.least[1:])
        self.refused([(0, 1, None)] + self.least[1:])
        self.refused([(0, 2, None)])
        # A piece that leads to a state that is not outside, and a reason where there is none.
        self.refused([(0, 0, None)])
        self.refused([(0, 0, None), (1, 2, ""), (2, 2, None)])
        for reason in ["", "b", "go", False, 0, (), []]:
            self.refused([(0, 0, reason)] + self.least[1:])
            self.refused(self.least[:2] + [(2, 2, reason)])
            self.refused(self.least + [(3, 0, reason)])
        # A said part that leads to a state that is not outside.
        self.refused(self.least + [(2, 1, None)])
        # A text that leads to a state that is not outside, or that is none of the language.
        self.refused([(0, 0, None), (1, 1, "a"), (2, 2, None)])
        self.refused([(0, 0, None), (1, 1, ""), (2, 2, None)])
        self.refused(self.least[:2])
        self.refused([(0, 0, None), (1, 1, "b"), (2, 1, None)])
        for reason in [None, "c", "bc", "B", b"b", ("b",), ["b"], {"b": 1}, True, 1]:
            self.refused([(0, 0, None), (1, 1, reason), (2, 2, None)])
            self.refused(self.least + [(1, 1, reason)])
        # The last part must lead outside of the ends.
        self.refused(self.least + [(3, 3, None)])

    def test_texts_of_the_language_only(self):
        template = Template(self.reader, [("piece", (("p", "go"),)), ("slot", "x", Language.of("ab", "", "a", "ba")),
                                          ("said", ("stop",))])
        self.accepted([(0, 0, None), (1, 1, "ba"), (2, 2, None)], template)
        self.refused([(0, 0, None), (1, 1, "b"), (2, 2, None)], template)
        self.refused([(0, 0, None), (1, 1, "bb"), (2, 2, None)], template)

    def test_sealed_template(self):
        template = Template(self.reader, [("piece", (("p", "go"),)), ("slot", "x", Language.every("a")), ("said", ("stop",))])
        self.assertIsNone(refusal(template))
        for value in [[], self.least, [(0, 0, None)], [(0, 0, None), (1, 1, "a")], [(0, 0, None), (1, 1, ""), (2, 1, None)]]:
            self.refused(value, template)

    def test_wrong_forms(self):
        for value in OTHER_VALUES + [tuple(self.least), set(self.least), {0: self.least}, dict.fromkeys(self.least), "", 0,
                                     iter(self.least)]:
            self.refused(value)
        for refused in OTHER_VALUES + [
                [0, 0, None], (0, 0), (0, 0, None, None), (0,), (False, 0, None), (0, False, None), (True, 1, "b"),
                (1, True, "b"), (-1, 0, None), (0, -1, None), (4, 0, None), (4, 3, None), (0, 4, None), (1, 4, ""),
                (2, 12, None), ("0", 0, None), (0, "0", None), (None, 0, None), (0, None, None), ([0], 0, None),
                (0, [0], None), ({}, 0, None), (0, {}, None), (0, (0,), None), ((0,), 0, None), (1, 2, []), (1, 2, {}),
                (1, 2, None), (3, 0, "")]:
            self.refused([refused])
            self.refused(self.least + [refused])
            self.refused([refused] + self.least)


class ObjectsTest(unittest.TestCase):
    def test_queries_change_nothing(self):
        for spec, parts, _ in random_templates(88, 40):
            template, other = Template(made(spec), parts), Template(made(spec), parts[::-1][:1])
            first = [sets_ahead(template), is_sealed(template), refusal(template)]
            sets_ahead(template).clear()
            (refusal(template) or []).clear()
            is_refusal(template, refusal(template))
            sets_ahead(other)
            self.assertEqual([sets_ahead(template), is_sealed(template), refusal(template)], first)
            self.assertTrue(template == Template(made(spec), parts))

    def test_arguments_stay_as_they_are(self):
        reader = Reader([{"p": (0, "a")}], [])
        template = Template(reader, [("slot", "x", Language.every("a"))])
        value = [(0, 0, "a"), (0, 0, "")]
        self.assertIs(is_refusal(template, value), True)
        self.assertEqual(value, [(0, 0, "a"), (0, 0, "")])


class SizesTest(unittest.TestCase):
    def test_many_sets_of_states(self):
        # Rotations and one merging sign: each set of the twelve states leads to many others.
        states = [{"p": ((state + 1) % 12, "a"), "q": ({0: 1, 1: 0}.get(state, state), "b"), "r": (state, "c"),
                   "u": (state, "go")} for state in range(12)]
        states[0]["s"] = (1, "c")
        language = Language("abc", [{"a": (at + 1) % 6, "b": (at + 2) % 6, "c": (at + 3) % 6} for at in range(6)], [0, 1, 2])
        parts = []
        for name in "wxyz":
            parts += [("slot", name, language), ("said", ("go",)), ("piece", ())]
        sealed = Template(Reader(states, list(range(12))), parts)
        self.assertIs(is_sealed(sealed), True)
        self.assertIsNone(refusal(sealed))
        template = Template(Reader(states, [0, 2, 4, 6, 8, 10]), parts)
        found = refusal(template)
        self.assertIs(is_sealed(template), False)
        self.assertIs(is_refusal(template, found), True)
        sets = sets_ahead(template)
        for index, state, reason in found:
            if reason is not None:
                self.assertIs(reason in language, True)
                self.assertEqual(set(last_states(template.reader, state, reason)) & set(sets[index + 1]), set())


if __name__ == "__main__":
    unittest.main()
