"""The interface: each name stands in its file, each method in its class, with its parameters."""

import ast
import importlib
import inspect
import pathlib
import unittest

PACKAGE = pathlib.Path(__file__).resolve().parent.parent / "sealedslots"

FUNCTIONS = {
    "readers": {"is_sign": "value", "is_mark": "value", "is_word": "value", "is_row": "value"},
    "pages": {"passed": "reader, state, word", "reading": "reader, page", "steps": "reader, page",
              "least_page": "reader, row", "shortest_page": "reader", "useful_states": "reader", "trimmed": "reader"},
    "languages": {"both": "one, other", "either": "one, other", "without": "one, other", "first_outside": "one, other",
                  "is_within": "one, other", "least_text": "language", "members": "language, most"},
    "doors": {"silent": "reader, states", "step": "reader, states, sign", "last_states": "reader, state, text",
              "is_writable": "door, text"},
    "covers": {"find_unwritable": "door", "is_wide": "door", "cover": "door", "is_cover": "door, value",
               "writable_texts": "reader, state, behind, signs", "least_behind": "reader, state, language"},
    "writings": {"least_word": "reader, state, row, target", "least_writing": "door, text"},
    "sealing": {"sets_ahead": "template", "is_sealed": "template", "refusal": "template", "is_refusal": "template, value"},
    "filling": {"is_filled": "template, texts, page", "texts_in": "template, page", "least_filling": "template, texts",
                "plain_filling": "template, texts", "find_unfillable": "template", "fill_cover": "template",
                "is_fill_cover": "template, value"},
    "places": {"following": "door, look_ahead, place, sign", "met_places": "door, look_ahead"},
    "games": {"safe_places": "door, look_ahead", "choices": "door, look_ahead", "is_choices": "door, look_ahead, value",
              "fall": "door, look_ahead", "is_fall": "door, look_ahead, value", "is_written_with": "door, look_ahead",
              "least_look_ahead": "door"},
    "vectors": {"sets_under": "template, vector", "is_sealed_under": "template, vector", "sealing_vectors": "template",
                "failing_vectors": "template"},
    "given": {"failure": "door, writer, text", "find_failing": "door, writer", "is_faithful": "door, writer",
              "end_states": "door, writer"},
    "lags": {"lags": "door, writer", "is_lags": "door, writer, value", "greatest_lag": "door, writer"},
    "quoting": {"goes_raw": "door, signs", "raw_sets": "door", "raw_refusals": "door", "quotes": "door, writer",
                "quote_refusal": "door, writer", "is_quote_refusal": "door, writer, value"},
    "regimes": {"sets_with": "template, regimes", "is_sealed_with": "template, regimes",
                "filling_with": "template, regimes, texts"},
    "exchange": {"set_ahead": "reader, kinds, parts, behind", "exchange": "reader, kinds, one, other",
                 "replaces": "reader, kinds, one, other", "parting_context": "reader, kinds, one, other",
                 "is_exchange": "reader, kinds, one, other, value", "is_parting": "reader, kinds, one, other, value"},
    "nested": {"sets_inside": "nesting, template, vector=None", "is_sealed_inside": "nesting, template, vector=None",
               "filling_inside": "nesting, template, texts", "find_uncarried": "door, template", "is_carried": "door, template"},
    "edits": {"rewrites": "document, slot, text", "reach": "document, slot, text, most_ahead, most_behind",
              "disturbing": "template", "is_disturbing": "template, value"},
    "several": {"first_stands": "template", "stands_behind": "template, word", "goes_on": "template, word",
                "least_continuation": "template, word", "strays_at": "template, word", "common_page": "one, other",
                "apartness": "one, other", "is_apartness": "one, other, value", "decided_after": "one, other"},
    "changed": {"find_difference": "one, other", "pair_lags": "one, other", "is_pair_lags": "one, other, value",
                "find_changed_filling": "template, reader", "moved": "document, reader"},
    "texts": {"reader_text": "reader", "language_text": "language", "template_text": "template", "parse_reader": "text",
              "parse_language": "text", "parse_template": "text"},
}
CLASSES = {
    ("readers", "Reader"): {
        "__init__": "self, states, ends=(), *, start=0", "of": "*states, ends=(), start=0", "ends": "self",
        "move": "self, state, sign", "moves": "self, state", "page_signs": "self", "text_signs": "self",
        "marks": "self", "__len__": "self", "__contains__": "self, value", "__eq__": "self, other", "__repr__": "self"},
    ("languages", "Language"): {
        "__init__": "self, signs, states, member_states", "every": "signs", "of": "signs, *texts",
        "move": "self, state, sign", "is_member": "self, state", "is_live": "self, state", "__len__": "self",
        "__contains__": "self, value", "__eq__": "self, other", "__repr__": "self"},
    ("doors", "Door"): {"__init__": "self, reader, state, behind, language", "__eq__": "self, other"},
    ("templates", "Template"): {
        "__init__": "self, reader, parts", "parts": "self", "slots": "self", "language_of": "self, name",
        "row": "self, texts", "__len__": "self", "__eq__": "self, other"},
    ("writers", "SlotWriter"): {"__init__": "self, door, look_ahead=4", "feed": "self, sign", "finish": "self", "clone": "self"},
    ("writers", "PageWriter"): {"__init__": "self, template, vector=None", "feed": "self, sign", "end_slot": "self",
                                "texts": "self", "clone": "self"},
    ("given", "GivenWriter"): {
        "__init__": "self, opening, moves, endings, *, states=1", "raw": "signs", "table": "entries",
        "move": "self, state, sign", "ending": "self, state", "output": "self, text", "quoted": "self, x, y",
        "__len__": "self", "__eq__": "self, other"},
    ("nested", "Nesting"): {"__init__": "self, door, inner", "triple": "self, state", "told_outside": "self, page",
                            "__len__": "self", "__eq__": "self, other"},
    ("documents", "Document"): {
        "__init__": "self, template, texts", "of_page": "template, page", "words": "self", "states": "self", "texts": "self",
        "stands": "self", "__len__": "self", "__eq__": "self, other", "clone": "self", "change": "self, slot, text"},
    ("sorter", "Sorter"): {"__init__": "self, templates", "feed": "self, sign", "texts_so_far": "self", "winner": "self",
                           "clone": "self", "__len__": "self"},
    ("workshop", "Workshop"): {
        "__init__": "self", "execute": "self, command", "run": "self, *commands", "log": "self", "replay": "log", "names": "self",
        "thing": "self, name", "rehearse": "self, *commands", "clone": "self", "__len__": "self", "__contains__": "self, value",
        "__eq__": "self, other"},
}
PROPERTIES = {("readers", "Reader"): ["start"], ("languages", "Language"): ["signs", "is_empty"],
              ("doors", "Door"): ["reader", "state", "behind", "language"], ("templates", "Template"): ["reader"],
              ("writers", "SlotWriter"): ["text", "held", "page", "state", "is_finished"],
              ("writers", "PageWriter"): ["slot", "page"], ("given", "GivenWriter"): ["opening"],
              ("nested", "Nesting"): ["door", "inner", "reader"], ("documents", "Document"): ["template", "page"],
              ("sorter", "Sorter"): ["page", "candidates", "sure", "strayed_at"], ("workshop", "Workshop"): []}
GENERATORS = [("pages", "steps"), ("languages", "members")]


class InterfaceTest(unittest.TestCase):
    def module(self, name):
        return importlib.import_module("sealedslots." + name)

    def test_functions(self):
        for name, functions in FUNCTIONS.items():
            defined = [node.name for node in ast.parse((PACKAGE / (name + ".py")).read_text()).body
                       if isinstance(node, ast.FunctionDef)]
            for function, parameters in functions.items():
                self.assertIn(function, defined)
                found = inspect.signature(getattr(self.module(name), function))
                self.assertEqual(str(found), f"({parameters})", function)

    def test_classes(self):
        for (name, kind), methods in CLASSES.items():
            made = getattr(self.module(name), kind)
            self.assertEqual(made.__module__, "sealedslots." + name)
            for method, parameters in methods.items():
                self.assertIn(method, vars(made))
                self.assertEqual(str(inspect.signature(getattr(made, method))), f"({parameters})", method)
            for property_name in PROPERTIES[(name, kind)]:
                self.assertIsInstance(vars(made)[property_name], property)

    def test_generators(self):
        for name, function in GENERATORS:
            self.assertTrue(inspect.isgeneratorfunction(getattr(self.module(name), function)))
        self.assertTrue(inspect.isgeneratorfunction(self.module("readers").Reader.moves))


if __name__ == "__main__":
    unittest.main()
