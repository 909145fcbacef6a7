"""The largest readers, languages and templates: each function ends within a few seconds."""

import itertools
import time
import unittest

from sealedslots.doors import Door
from sealedslots.errors import NotSealed
from sealedslots.filling import (fill_cover, find_unfillable, is_fill_cover, is_filled, least_filling, plain_filling,
                                 texts_in)
from sealedslots.games import choices, fall, is_choices, is_fall, is_written_with, least_look_ahead, safe_places
from sealedslots.given import GivenWriter, end_states, failure, find_failing, is_faithful
from sealedslots.lags import greatest_lag, is_lags, lags
from sealedslots.languages import Language
from sealedslots.places import met_places
from sealedslots.quoting import is_quote_refusal, quote_refusal, quotes, raw_refusals, raw_sets
from sealedslots.readers import Reader
from sealedslots.regimes import filling_with, is_sealed_with, sets_with
from sealedslots.sealing import refusal, sets_ahead
from sealedslots.templates import Template
from sealedslots.vectors import failing_vectors, is_sealed_under, sealing_vectors, sets_under
from sealedslots.writers import PageWriter, SlotWriter

SECONDS = 10


def turning_reader(ends):
    """Texts lead to all sets of states: a turns the states, b adds one, c takes one away."""
    states = []
    for state in range(12):
        moves = {"p": ((state + 1) % 12, "a"), "q": (state, "b"), "s": (state, "go"), "u": (state, "stop")}
        moves.update({"r": (1, "b")} if state == 0 else {"t": (state, "c")})
        states.append(moves)
    return Reader(states, ends)


def swapping_reader():
    """Texts lead to sets of as many states as the first one, none of them inside another one."""
    states = [{"p": ((state + 1) % 11, "a"), "q": ({0: 1, 1: 0}.get(state, state), "b"), "s": (state, "go"), "t": (11, "go"),
               "u": (state, "stop")} for state in range(11)]
    return Reader(states + [{"p": (0, None), "q": (1, None), "r": (2, None), "s": (3, None), "t": (4, None), "u": (11, "go")}],
                  list(range(12)))


def six_states(signs, without):
    """All texts, but those whose number of signs a is so much above a multiple of six."""
    return Language(signs, [{sign: (at + 1) % 6 if sign == "a" else at for sign in signs} for at in range(6)],
                    [at for at in range(6) if at != without])


def template_of(reader, signs):
    """Twelve parts with four slots."""
    go, nothing = ("said", ("go",)), ("said", ())
    slots = [("slot", name, six_states(signs, without)) for without, name in enumerate("wxyz")]
    return Template(reader, [go, nothing, nothing, slots[0], go, slots[1], nothing, go, slots[2], go, slots[3],
                             ("said", ("stop",))])


class SizesTest(unittest.TestCase):
    def quick(self, call):
        before = time.process_time()
        result = call()
        self.assertLess(time.process_time() - before, SECONDS)
        return result

    def test_templates(self):
        for reader, signs in [(turning_reader([0, 1, 2, 3, 4, 5]), "abcd"), (turning_reader(list(range(12))), "ab"),
                              (swapping_reader(), "ab")]:
            template = template_of(reader, signs)
            self.assertEqual(len(template), 12)
            least, greatest = self.quick(lambda: sealing_vectors(template)), self.quick(lambda: failing_vectors(template))
            self.assertTrue(least or greatest)
            for entry in range(5):
                self.quick(lambda: sets_under(template, (entry,) * 4))
            self.assertEqual(self.quick(lambda: sets_ahead(template)), sets_under(template, (4,) * 4))
            self.quick(lambda: refusal(template))

    def test_fillings(self):
        for reader, signs in [(turning_reader([0, 1, 2, 3, 4, 5]), "abcd"), (turning_reader(list(range(12))), "ab"),
                              (swapping_reader(), "ab")]:
            template = template_of(reader, signs)
            self.quick(lambda: find_unfillable(template))
            found = self.quick(lambda: fill_cover(template))
            if found is not None:
                self.assertIs(self.quick(lambda: is_fill_cover(template, found)), True)
            every = [(number, at, states) for number in range(4) for at in range(6) for size in range(0, 13, 2)
                     for states in itertools.combinations(range(12), size)]
            self.assertIs(self.quick(lambda: is_fill_cover(template, every)), False)
            texts = {name: "ab" * 28 + "b" * at for at, name in enumerate("wxyz")}
            page = self.quick(lambda: least_filling(template, texts))
            if page is not None:
                self.assertEqual(self.quick(lambda: texts_in(template, page)), texts)
                self.assertIs(self.quick(lambda: is_filled(template, texts, page)), True)
        self.assertEqual(len(self.quick(lambda: plain_filling(template, texts))), 4 * 56 + sum(range(4)) + 5)

    def test_doors(self):
        for reader, signs in [(turning_reader(list(range(12))), "abcd"), (turning_reader([0, 1, 2]), "ab"),
                              (swapping_reader(), "ab")]:
            for language in [six_states(signs, 0), Language.every(signs)]:
                door = Door(reader, 0, reader.ends(), language)
                self.quick(lambda: least_look_ahead(door))
                for look_ahead in range(4):
                    met = self.quick(lambda: met_places(door, look_ahead))
                    self.assertLessEqual(len(self.quick(lambda: safe_places(door, look_ahead))), len(met))
                    found, fallen = self.quick(lambda: choices(door, look_ahead)), self.quick(lambda: fall(door, look_ahead))
                    if is_written_with(door, look_ahead):
                        self.assertIs(self.quick(lambda: is_choices(door, look_ahead, found)), True)
                    else:
                        self.assertIs(self.quick(lambda: is_fall(door, look_ahead, fallen)), True)

    def test_writers(self):
        text = "ab" * 28 + "bb"
        for reader, signs in [(turning_reader(list(range(12))), "ab"), (swapping_reader(), "ab")]:
            template = template_of(reader, signs)
            for entry in range(5):
                self.assertIs(is_sealed_under(template, (entry,) * 4), True)
                writer = self.quick(lambda: PageWriter(template, (entry,) * 4))
                for name in "wxyz":
                    self.quick(lambda: [writer.feed(sign) for sign in text[:40]])
                    copy = self.quick(writer.clone)
                    self.quick(lambda: [copy.feed(sign) for sign in text[40:]])
                    self.quick(copy.end_slot)
                    writer = copy
                self.assertEqual(writer.texts(), dict.fromkeys("wxyz", text))
                self.assertIs(is_filled(template, writer.texts(), writer.page), True)
                door = Door(reader, 0, reader.ends(), six_states(signs, 0))
                alone = self.quick(lambda: SlotWriter(door, entry))
                self.quick(lambda: [alone.feed(sign) for sign in text])
                self.quick(alone.clone)
                self.assertEqual(len(self.quick(alone.finish) and alone.page or alone.page), len(text))

    def test_given_writers(self):
        reader = Reader([{"p": ((state + 1) % 12, "a"), "q": ({0: 1, 1: 0}.get(state, state), "b"), "r": (state * 5 % 12, "c"),
                          "s": ((state + 5) % 12, "d"), "t": ((state + 1) % 12, None), "u": (0 if state == 1 else state, None)}
                         for state in range(12)])
        words, held, language = dict(zip("abcd", "pqrs")), ["", "a", "b", "c", "d"], six_states("abcd", 1)
        late = GivenWriter("", {(at, sign): (held.index(sign), words.get(held[at], "")) for at in range(5) for sign in "abcd"},
                           {at: words.get(held[at], "") for at in range(5)}, states=5)
        plain = GivenWriter("", {(at, sign): ((at + 1) % 8, words[sign]) for at in range(8) for sign in "abcd"},
                            {at: "" for at in range(8)}, states=8)
        lost = GivenWriter("", {(at, sign): ((at + 1) % 8, words[sign] if at < 7 else "") for at in range(8) for sign in "abcd"},
                           {at: "" for at in range(8)}, states=8)
        for writer in [late, plain]:
            door = Door(reader, 0, list(range(12)), language)
            self.assertIs(self.quick(lambda: is_faithful(door, writer)), True)
            found = self.quick(lambda: lags(door, writer))
            self.assertGreater(len(found), 280)
            self.assertIs(self.quick(lambda: is_lags(door, writer, found)), True)
            self.assertEqual(self.quick(lambda: greatest_lag(door, writer)), (1 if writer is late else 0, 0))
            self.assertEqual(self.quick(lambda: end_states(door, writer)), tuple(range(12)))
            x, y = self.quick(lambda: quotes(Door(reader, 0, [0, 1, 2], language), writer))
            self.assertIs(is_faithful(Door(reader, 0, [0, 1, 2], language), writer.quoted(x, y)), True)
            shut = Door(reader, 0, [], language)
            value = self.quick(lambda: quote_refusal(shut, writer))
            self.assertEqual(len(value), 12)
            self.assertIs(self.quick(lambda: is_quote_refusal(shut, writer, value)), True)
            self.quick(lambda: raw_sets(door))
            self.quick(lambda: raw_refusals(door))
        self.assertEqual(failure(door, lost, self.quick(lambda: find_failing(door, lost)))[0], "text")

    def test_end_sets(self):
        # All sets of states but a few are end sets: t turns the states, u swaps two, v leads one to another.
        reader = Reader([{"p": ((state + 1) % 12, "a"), "q": (state, "b"), "t": ((state + 1) % 12, None),
                          "u": ({0: 1, 1: 0}.get(state, state), None), "v": (0 if state == 1 else state, None)} for state in range(12)])
        door = Door(reader, 0, [], six_states("ab", 0))
        writer = GivenWriter.table({"a": "p", "b": "q"})
        value = self.quick(lambda: quote_refusal(door, writer))
        self.assertGreater(min(len(sets) for kind, sets in value.values()), 4000)
        self.assertIs(self.quick(lambda: is_quote_refusal(door, writer, value)), True)

    def test_regimes(self):
        for reader, signs in [(turning_reader([0, 1, 2, 3, 4, 5]), "abcd"), (turning_reader(list(range(12))), "ab"),
                              (swapping_reader(), "ab")]:
            template = template_of(reader, signs)
            given = GivenWriter.table(dict(zip("abcd", "pqtt")))
            texts = {name: "ab" * 28 + "b" * at for at, name in enumerate("wxyz")}
            for regimes in [dict.fromkeys("wxyz", given), {"w": 4, "x": given, "y": 3, "z": given}, dict.fromkeys("wxyz", 4)]:
                self.quick(lambda: sets_with(template, regimes))
                if is_sealed_with(template, regimes):
                    self.assertIs(is_filled(template, texts, self.quick(lambda: filling_with(template, regimes, texts))), True)
                else:
                    self.assertRaises(NotSealed, filling_with, template, regimes, texts)


if __name__ == "__main__":
    unittest.main()
