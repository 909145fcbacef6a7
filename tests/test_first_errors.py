"""[2] Which error comes first: that of a state, of states or of a word, in the sequence of the parameters."""

import inspect
import unittest

from sealedslots.covers import least_behind, writable_texts
from sealedslots.documents import Document
from sealedslots.doors import Door, is_writable, last_states, silent, step
from sealedslots.edits import reach, rewrites
from sealedslots.errors import (InvalidKinds, InvalidParts, InvalidRow, InvalidState, InvalidStates, InvalidText, InvalidTexts, InvalidWord,
                                NotFilled, NotMember, UnknownSlot, Unreadable)
from sealedslots.exchange import set_ahead
from sealedslots.filling import is_filled, texts_in
from sealedslots.given import GivenWriter, failure
from sealedslots.languages import Language
from sealedslots.nested import Nesting
from sealedslots.pages import passed, reading, steps
from sealedslots.readers import Reader
from sealedslots.several import goes_on, least_continuation, stands_behind, strays_at
from sealedslots.templates import Template
from sealedslots.texts import parse_language, parse_reader, parse_template
from sealedslots.writings import least_word, least_writing
from tests.cases import NOT_WORDS, Case, no_sets, no_states

READER = Reader([{"p": (1, "a")}, {"q": (0, "go")}], [0])
LANGUAGE = Language.of("a", "a")
DOOR = Door(READER, 0, [1], LANGUAGE)
TEMPLATE = Template(READER, [("slot", "x", LANGUAGE), ("said", ("go",))])
# No page fills it, and its slot has no text that can be written.
UNFILLED = Template(READER, [("slot", "x", Language.of("b", "b"))])
BROKEN = GivenWriter("", {}, {})
NESTING = Nesting(Door(Reader([{"x": (0, "p"), "y": (0, "q")}]), 0, [0], Language.every("pq")), READER)
DOCUMENT = Document.of_page(TEMPLATE, "pq")

ERRORS = {"state": InvalidState, "target": InvalidState, "states": InvalidStates, "behind": InvalidStates,
          "word": InvalidWord, "page": InvalidWord, "text": InvalidWord}
WRONG = {InvalidState: no_states(2), InvalidStates: no_sets(2), InvalidWord: NOT_WORDS}

# For each function: what it is called with, and further values of the other parameters with which it raises errors, too.
FUNCTIONS = [
    (passed, {"reader": READER, "state": 0, "word": "p"}, {"word": [5, "z"]}),
    (reading, {"reader": READER, "page": "pq"}, {"reader": [Reader([{}])]}),
    (lambda reader, page: list(steps(reader, page)), {"reader": READER, "page": "pq"}, {}),
    (silent, {"reader": READER, "states": [0]}, {}),
    (step, {"reader": READER, "states": [0], "sign": "a"}, {}),
    (last_states, {"reader": READER, "state": 0, "text": "a"}, {"text": [5, "z"]}),
    (Door, {"reader": READER, "state": 0, "behind": [0], "language": LANGUAGE}, {"behind": [5, [2]]}),
    (is_writable, {"door": DOOR, "text": "a"}, {}),
    (writable_texts, {"reader": READER, "state": 0, "behind": [0], "signs": "a"}, {"behind": [5, [2]], "signs": ["", 5, "ba"]}),
    (least_behind, {"reader": READER, "state": 0, "language": LANGUAGE}, {}),
    (least_writing, {"door": DOOR, "text": "a"}, {}),
    (is_filled, {"template": TEMPLATE, "texts": {"x": "a"}, "page": "pq"},
     {"template": [UNFILLED], "texts": [{}, None, {"x": 5}, {"x": "aa"}, []]}),
    (texts_in, {"template": TEMPLATE, "page": "pq"}, {"template": [UNFILLED]}),
    (failure, {"door": DOOR, "writer": BROKEN, "text": "a"}, {"door": [Door(READER, 1, (), Language("a", [{"a": 0}], []))]}),
    (READER.move, {"state": 0, "sign": "p"}, {}),
    (lambda state: list(READER.moves(state)), {"state": 0}, {}),
    (BROKEN.output, {"text": ""}, {}),
    (Language.every("a").move, {"state": 0, "sign": "a"}, {}),
    (NESTING.triple, {"state": 0}, {}),
    (NESTING.told_outside, {"page": "xy"}, {}),
    (Document.of_page, {"template": TEMPLATE, "page": "pq"}, {"template": [UNFILLED]}),
    (stands_behind, {"template": TEMPLATE, "word": "p"}, {"template": [UNFILLED]}),
    (goes_on, {"template": TEMPLATE, "word": "p"}, {"template": [UNFILLED]}),
    (least_continuation, {"template": TEMPLATE, "word": "p"}, {"template": [UNFILLED]}),
    (strays_at, {"template": TEMPLATE, "word": "p"}, {"template": [UNFILLED]}),
]


class FirstErrorsTest(Case):
    def calls(self, right, others, name):
        """The arguments with a right value at each place but this one, and with wrong ones behind and beside it."""
        yield dict(right)
        names = list(right)
        for other, values in others.items():
            # A later parameter of these names comes later; any other error comes later wherever its parameter stands.
            if other != name and (other not in ERRORS or names.index(other) > names.index(name)):
                for value in values:
                    yield {**right, other: value}
        yield {**right, **{other: values[0] for other, values in others.items() if other not in ERRORS}}

    def test_each_function(self):
        for call, right, others in FUNCTIONS:
            names = [name for name in right if name in ERRORS]
            self.assertTrue(names)
            for name in names:
                for arguments in self.calls(right, others, name):
                    for value in WRONG[ERRORS[name]]:
                        arguments[name] = value
                        self.fails(ERRORS[name], value, lambda: call(**arguments))
                        self.fails(ERRORS[name], value, lambda: call(*arguments.values()))

    def test_functions_that_name_another_sequence(self):
        for value in no_states(2):
            self.fails(InvalidState, value, lambda: least_word(READER, value, 5, value))
            self.fails(InvalidRow, 5, lambda: least_word(READER, 0, 5, value))
            self.fails(InvalidState, value, lambda: least_word(READER, 0, ("go",), value))

        for value in no_sets(2):
            self.assertRaises(InvalidKinds, set_ahead, READER, [], None, value)
            self.assertRaises(InvalidParts, set_ahead, READER, [(LANGUAGE, 0)], None, value)
            self.fails(InvalidStates, value, lambda: set_ahead(READER, [(LANGUAGE, 0)], [], value))

    def test_texts_for_which_another_error_is_named(self):
        for value in NOT_WORDS:
            for call in (DOCUMENT.change, lambda *rest: rewrites(DOCUMENT, *rest), lambda *rest: reach(DOCUMENT, *rest, None, None)):
                self.assertRaises(UnknownSlot, call, "y", value)
                self.assertRaises(NotMember, call, "x", value)
            for call in (parse_reader, parse_language, parse_template):
                self.assertRaises(InvalidText, call, value)

    def test_errors_that_come_then(self):
        with self.assertRaises(NotFilled):
            Document.of_page(TEMPLATE, "z")
        with self.assertRaises(Unreadable):
            NESTING.told_outside("z")
        with self.assertRaises(Unreadable):
            reading(READER, "p")
        with self.assertRaises(NotMember):
            failure(DOOR, BROKEN, "aa")
        with self.assertRaises(InvalidTexts):
            is_filled(TEMPLATE, {}, "z")

    def test_the_names_are_those_of_the_functions(self):
        for call, right, _ in FUNCTIONS:
            self.assertEqual([name for name in inspect.signature(call).parameters], list(right))


if __name__ == "__main__":
    unittest.main()
