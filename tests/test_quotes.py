"""[27], [28] Quotes of given writers and quote refusals: compared with all pairs of short words."""

import random
import unittest

from sealedslots.doors import Door
from sealedslots.errors import InvalidWriter
from sealedslots.given import GivenWriter, end_states, find_failing, is_faithful
from sealedslots.languages import Language, members
from sealedslots.quoting import is_quote_refusal, quote_refusal, quotes
from sealedslots.readers import Reader
from tests.cases import Case, subsets
from tests.given_samples import given_doors, made_given
from tests.samples import OTHER_VALUES, accepts, words
from tests.slow import silent_set
from tests.slow_given import end_sets, silent_pass, slow_failure, slow_is_quote_refusal


def quoting_doors(seed, count):
    """Doors with silent moves ahead and behind: (states, state, behind, machine, writer)."""
    rng = random.Random(seed)
    for states, state, behind, machine, writer in given_doors(seed, count):
        states = [dict(moves) for moves in states]
        for _ in range(rng.randint(0, 3)):
            states.append({})
        for moves in states:
            for sign in "tuv":
                if rng.random() < 0.45:
                    moves[sign] = rng.randrange(len(states)), None
            moves.pop("r", None)
        behind = [here for here in range(len(states)) if rng.random() < 0.35]
        if rng.random() < 0.5:
            state = rng.randrange(len(states))
        writer = (writer[0].replace("r", ""), {key: (move[0], move[1].replace("r", "")) for key, move in writer[1].items()},
                  {here: word.replace("r", "") for here, word in writer[2].items()}, writer[3])
        yield states, state, behind, machine, writer


def slow_quotes(states, state, behind, language, writer, most):
    """The least quotes with short words, by trying all pairs in sequence."""
    signs = sorted({sign for moves in states for sign in moves})
    reader = Reader(states)
    pairs = [(x, y) for x in words(signs, most) for y in words(signs, most) if len(x + y) <= most]
    faithful = {}
    for x, y in sorted(pairs, key=lambda pair: (len(pair[0] + pair[1]), len(pair[0]), pair[0], pair[1])):
        after = silent_pass(states, state, x)
        if after is not None:
            last = tuple(here for here in range(len(states)) if silent_pass(states, here, y) in behind)
            if (after, last) not in faithful:
                faithful[(after, last)] = is_faithful(Door(reader, after, last, language), writer)
            if faithful[(after, last)]:
                return x, y
    return None


def slow_refusal(states, state, language, writer):
    """For each state of SILENT, the text or the end sets of the quote refusal."""
    reader, found = Reader(states), {}
    for here in sorted(silent_set(states, {state})):
        door = Door(reader, here, list(range(len(states))), language)
        text = find_failing(door, writer)
        if text is not None:
            found[here] = ("text", text)
        else:
            found[here] = ("sets", sorted(tuple(sorted(chosen)) for chosen in end_sets(states, end_states(door, writer))))
    return found


class QuotesTest(Case):
    def test_short_words(self):
        counts = {"none": 0, "empty": 0, "ahead": 0, "behind": 0, "both": 0, "long": 0, "sets": 0, "text": 0}
        for spec in quoting_doors(221, 1400):
            states, state, behind, machine, given = spec
            door, writer = made_given(*spec)
            found = quotes(door, writer)
            wanted = slow_quotes(states, state, behind, door.language, writer, 3)
            refusal = quote_refusal(door, writer)
            self.assertEqual(refusal is None, found is not None)
            if found is None:
                self.assertIsNone(wanted)
                self.assertEqual(refusal, slow_refusal(states, state, door.language, writer))
                self.assertEqual(list(refusal), sorted(refusal))
                self.assertIs(is_quote_refusal(door, writer, refusal), True)
                counts["none"] += 1
                for kind in ["sets", "text"]:
                    counts[kind] += kind in [reason[0] for reason in refusal.values()]
                continue
            self.assertIs(type(found), tuple)
            x, y = found
            if wanted is None:
                self.assertGreater(len(x + y), 3)
                counts["long"] += 1
            else:
                self.assertEqual(found, wanted)
                counts["empty" if not x + y else "ahead" if not y else "behind" if not x else "both"] += 1
            self.assertEqual(x + y == "", is_faithful(door, writer))
            self.assertIs(is_faithful(door, writer.quoted(x, y)), True)
            self.assertEqual(quotes(writer=writer, door=door), found)
        self.assertGreater(min(counts[kind] for kind in counts if kind != "long"), 10, counts)

    def test_the_sequence(self):
        # From 0, x leads by t or u to states from which the writer is faithful; y is one sign, or x is one sign more.
        reader = Reader([{"t": (1, None), "u": (2, None)}, {"p": (3, "a"), "t": (4, None)}, {"p": (5, "a")}, {"u": (6, None)},
                         {"p": (6, "a")}, {"t": (6, None)}, {}])
        door, writer = Door(reader, 0, [6], Language.of("a", "a")), GivenWriter.table({"a": "p"})
        self.assertEqual(quotes(door, writer), ("t", "u"))
        self.assertEqual(quotes(Door(reader, 0, [6], Language.of("a", "a")), GivenWriter("t", {(0, "a"): (0, "p")}, {0: ""})), ("", "u"))
        self.assertEqual(quotes(Door(reader, 1, [6], Language.of("a", "a")), writer), ("", "u"))
        self.assertEqual(quotes(Door(reader, 0, [5], Language.of("a", "a")), writer), ("u", ""))
        self.assertEqual(quotes(Door(reader, 0, [3, 5], Language.of("a", "a")), writer), ("t", ""))
        self.assertEqual(quotes(Door(reader, 3, [6], Language.of("a", "")), GivenWriter.raw("")), ("", "u"))

    def test_one_word_for_all_ends(self):
        # The texts end in 1 and 2: only u leads from both, and only tu into 3.
        reader = Reader([{"p": (1, "a"), "q": (2, "b")}, {"t": (2, None), "u": (4, None)}, {"t": (1, None), "u": (3, None)},
                         {"u": (3, None)}, {"t": (2, None), "u": (4, None)}])
        door, writer = Door(reader, 0, [3], Language.of("ab", "a", "b")), GivenWriter.table({"a": "p", "b": "q"})
        self.assertIsNone(quotes(door, writer))
        self.assertEqual(quote_refusal(door, writer), {0: ("sets", [(1, 2), (3, 4)])})
        both = Door(reader, 0, [3, 4], Language.of("ab", "a", "b"))
        self.assertEqual(quotes(both, writer), ("", "u"))
        self.assertEqual(quotes(Door(reader, 0, [1, 2], Language.of("ab", "a", "b")), writer), ("", ""))
        marks = Reader([{"p": (1, "a")}, {"s": (2, "go"), "t": (2, "a")}, {}])
        self.assertEqual(quote_refusal(Door(marks, 0, [2], Language.of("a", "a")), GivenWriter.table({"a": "p"})), {0: ("sets", [(1,)])})

    def test_special_languages(self):
        reader = Reader([{"p": (1, "a"), "t": (1, None)}, {}])
        for writer in [GivenWriter("", {}, {}), GivenWriter("z", {}, {0: ""})]:
            door = Door(reader, 0, [], Language.of("a"))
            self.assertEqual((quotes(door, writer), quote_refusal(door, writer)), (("", ""), None))
            for value in [{}, {0: ("sets", [])}, {0: ("sets", [()]), 1: ("sets", [()])}, {0: ("text", ""), 1: ("text", "")}]:
                self.assertIs(is_quote_refusal(door, writer, value), False)
        self.assertEqual(quote_refusal(Door(reader, 0, [], Language.every("a")), GivenWriter.table({"a": "p"})),
                         {0: ("text", "aa"), 1: ("text", "a")})

    def test_words_that_become_too_long(self):
        # Quotes may be longer than a given writer can have.
        states = [{"p": (1, "a")}] + [{"t": (state + 1, None)} for state in range(1, 11)] + [{}]
        states[5]["u"] = states[5].pop("t")
        door = Door(Reader(states), 0, [11], Language.of("a", "a"))
        writer = GivenWriter("", {(0, "a"): (0, "p")}, {0: ""})
        self.assertEqual(quotes(door, writer), ("", "ttttuttttt"))
        self.assertIs(is_faithful(door, writer.quoted("", "ttttuttttt")), True)
        full = GivenWriter("", {(0, "a"): (1, "p")}, {1: ""}, states=2)
        with self.assertRaises(InvalidWriter):
            full.quoted("", "t" * 25)


class IsQuoteRefusalTest(Case):
    def setUp(self):
        # Silent moves lead from 0 to 1 and 2; from 0 and 1 texts end in 1 and 2, from 2 a text fails.
        self.reader = Reader([{"p": (1, "a"), "q": (2, "b"), "t": (1, None)}, {"p": (1, "a"), "q": (2, "b"), "t": (2, None)},
                              {"t": (1, None), "v": (3, None), "s": (0, "go")}, {"t": (3, None)}])
        self.door = Door(self.reader, 0, [3], Language.of("ab", "a", "b"))
        self.writer = GivenWriter.table({"a": "p", "b": "q"})
        self.refusal = {0: ("sets", [(1, 2)]), 1: ("sets", [(1, 2)]), 2: ("text", "a"), 3: ("text", "a")}

    def accepted(self, value):
        self.assertIs(is_quote_refusal(self.door, self.writer, value), True, repr(value)[:200])

    def refused(self, value, door=None, writer=None):
        self.assertIs(is_quote_refusal(door or self.door, writer or self.writer, value), False, repr(value)[:200])

    def test_accepted(self):
        self.assertEqual(quote_refusal(self.door, self.writer), self.refusal)
        self.assertEqual(quote_refusal(writer=self.writer, door=self.door), self.refusal)
        self.accepted(self.refusal)
        self.accepted(dict(reversed(self.refusal.items())))
        self.assertIs(is_quote_refusal(value=self.refusal, writer=self.writer, door=self.door), True)
        self.accepted({**self.refusal, 2: ("text", "b"), 3: ("text", "b")})
        self.accepted({**self.refusal, 0: ("sets", [(0, 1), (1, 2), (1,), (1, 2)]), 1: ("sets", [(1, 2), (0, 1, 2, 3)])})

    def test_each_property_alone(self):
        for state in self.refusal:
            self.refused({here: reason for here, reason in self.refusal.items() if here != state})
        self.refused({**self.refusal, 4: ("text", "a")})
        for here in [1, 2, 3]:
            inner = Door(self.reader, here, [3], self.door.language)
            if here < 3:
                self.refused(self.refusal, inner)
        # A text that does not fail or does not belong to the language; a text where none fails.
        for text in ["", "ab", "c", "aa", "z"]:
            self.refused({**self.refusal, 2: ("text", text)})
        for text in ["a", "b", ""]:
            self.refused({**self.refusal, 0: ("text", text)})
        # Sets where a text fails; an end set left out; a set inside the states behind.
        for sets in [[], [(1, 2)], [(2,)], subsets(4)[1:]]:
            self.refused({**self.refusal, 2: ("sets", sets)})
        for sets in [[], [(1,)], [(2,)], [(0, 1, 2)], [(1, 2), (3,)], [(1, 2), ()], [(3,), (1, 2)]]:
            self.refused({**self.refusal, 0: ("sets", sets)})
        # Quotes where there are more states behind.
        for behind in [[1, 2], [1, 2, 3]]:
            self.refused(self.refusal, Door(self.reader, 0, behind, self.door.language))

    def test_further_end_sets(self):
        reader = Reader([{"p": (1, "a"), "q": (2, "b")}, {"t": (2, None), "u": (4, None)}, {"t": (1, None), "u": (3, None)},
                         {"u": (3, None)}, {"t": (2, None), "u": (4, None)}])
        door = Door(reader, 0, [3], Language.of("ab", "a", "b"))
        self.assertIs(is_quote_refusal(door, self.writer, {0: ("sets", [(3, 4), (1, 2)])}), True)
        for sets in [[(3, 4)], [(1, 2)], [(1, 2), (4,)], [(1, 2), (3, 4), (3,)]]:
            self.refused({0: ("sets", sets)}, door)

    def test_wrong_forms(self):
        for value in OTHER_VALUES + [list(self.refusal.items()), list(self.refusal), tuple(self.refusal.items()), "", 0]:
            self.refused(value)
        for key in [-1, 4, "0", None, (0,), len, (0, 0)]:
            self.refused({**self.refusal, key: ("text", "a")})
            self.refused({key: ("text", "a"), **self.refusal})
        keys = {False: self.refusal[0], True: self.refusal[1], 2: self.refusal[2], 3: self.refusal[3]}
        self.refused(keys)
        for reason in OTHER_VALUES + ["text", ["text", "a"], ("text",), ("text", "a", 0), ("Text", "a"), ("sets", "a"), ("text", ["a"]),
                                      ("text", ("a",)), ("text", None), ("text", True), ("text", b"a"), (b"text", "a"), ("a", "text"),
                                      (None, "a"), (["text"], "a"), ("", "a"), ("text", {}), ("text", "A")]:
            self.refused({**self.refusal, 2: reason})
        good = (1, 2)
        for reason in OTHER_VALUES + [["sets", [good]], ("sets", (good,)), ("sets", good), ("sets", [list(good)]), ("sets", {good}),
                                      ("sets", {good: True}), ("sets", [good], 0), ("text", [good]), ("set", [good]), ("sets",),
                                      ("sets", None), ("sets", "12"), (None, [good]), ([], [good])]:
            self.refused({**self.refusal, 0: reason})
        for states in OTHER_VALUES + [0, (2, 1), (1, 1), (1, 4), (-1, 1), (True, 2), (False, 1), [1, 2], (None,), ("1",), ([],), ({},),
                                      "12", ((1, 2),)]:
            self.refused({**self.refusal, 0: ("sets", [good, states])})
            self.refused({**self.refusal, 0: ("sets", [states, good])})

    def test_values_of_the_right_form(self):
        rng = random.Random(222)
        counts = {True: 0, False: 0}
        for spec in quoting_doors(223, 900):
            states, state, behind, machine, given = spec
            door, writer = made_given(*spec)
            walks = {}
            for here in range(len(states)):
                open_door = Door(door.reader, here, list(range(len(states))), door.language)
                if find_failing(open_door, writer) is None:
                    walks[here] = (None, end_states(open_door, writer))
                else:
                    walks[here] = (self.failing(states, here, machine, given), ())
            value = dict(slow_refusal(states, state, door.language, writer))
            for here in list(value):
                kind, shown = value[here]
                if kind == "text" and rng.random() < 0.4:
                    value[here] = (kind, rng.choice(list(words("ab", 2)) + list(members(door.language, 3))))
                elif kind == "sets" and rng.random() < 0.4:
                    value[here] = (kind, rng.sample(shown, rng.randint(max(0, len(shown) - 1), len(shown)))
                                   + rng.sample(subsets(len(states)), rng.choice([0, 1, 1])))
                elif rng.random() < 0.05:
                    value[here] = rng.choice([("text", ""), ("sets", [(0,)]), ("sets", subsets(len(states))[1:])])
                elif rng.random() < 0.03:
                    del value[here]
            wanted = slow_is_quote_refusal(states, state, behind, walks, value)
            self.assertIs(is_quote_refusal(door, writer, value), wanted, (spec, value))
            if wanted:
                self.assertIsNone(quotes(door, writer))
            counts[wanted] += 1
        self.assertGreater(min(counts.values()), 100)

    def failing(self, states, here, machine, given):
        every = list(range(len(states)))
        return lambda text: accepts(machine, text) and slow_failure(states, here, every, given, text) is not None

    def test_new_results(self):
        found = quote_refusal(self.door, self.writer)
        found[0][1].append((9,))
        found[7] = 1
        self.assertEqual(quote_refusal(self.door, self.writer), self.refusal)


if __name__ == "__main__":
    unittest.main()
