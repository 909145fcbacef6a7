"""[12], [13] Templates: their parts, slots and rows, and what is no template."""

import unittest

from sealedslots.errors import InvalidTemplate, InvalidTexts, UnknownSlot
from sealedslots.languages import Language
from sealedslots.readers import Reader
from sealedslots.templates import Template
from tests.samples import OTHER_VALUES

EVERY, FEW, NONE = Language.every("ab"), Language.of("ab", "", "ba"), Language.of("ab")
READER = Reader([{"q": (1, "begin")}, {"p": (1, "a"), "q": (2, "end"), "r": (1, "b")}, {}], [2])
BEGIN, END = ("piece", (("q", "begin"),)), ("piece", (("q", "end"),))
GO = ("said", ("go",))


class Same:
    """An object that is equal to everything."""

    def __eq__(self, other):
        return True


def slot(name, language=EVERY):
    return ("slot", name, language)


class Case(unittest.TestCase):
    def refused(self, problem, place, parts):
        with self.assertRaises(InvalidTemplate) as caught:
            Template(READER, parts)
        self.assertEqual((caught.exception.problem, caught.exception.place), (problem, place), repr(parts)[:300])


class PartsTest(Case):
    def test_all_forms(self):
        moves = (("q", "begin"), ("p", None), ("z", "other"))
        marks = ("go", "abcdefgh", "go", "aa", "zz", "go")
        parts = [("piece", ()), ("piece", moves), ("piece", moves * 4), ("said", ()), ("said", ("go",)), ("said", marks),
                 ("slot", "a", EVERY), ("piece", moves), ("slot", "abcdefgh", Language.of("xyz", "x"))]
        self.assertEqual(Template(READER, parts).parts(), parts)
        for part in parts:
            self.assertEqual(Template(READER, (part,)).parts(), [part])
        for name in ["piece", "said", "slot", "z"]:
            self.assertEqual(Template(READER, [slot(name)]).slots(), [name])

    def test_numbers_of_parts(self):
        for parts in [[BEGIN], (BEGIN,), [GO] * 12, tuple([GO] * 12)]:
            self.assertEqual(len(Template(READER, parts)), len(parts))
        for parts in [[], (), [GO] * 13, tuple([BEGIN] * 13), [GO] * 40, [None] * 13]:
            self.refused("parts", None, parts)

    def test_no_list_of_parts(self):
        for value in OTHER_VALUES + ["", 0, {0: GO}, {GO}, {GO: 1}, iter([GO])]:
            if value not in (["a"], ("a",), [[]], ([],)):
                self.refused("parts", None, value)

    def wrong_parts(self):
        return OTHER_VALUES + [
            0, "", "piece", ["piece", ()], ("piece",), ("piece", (), ()), ("piece", []), ("piece", [("q", None)]),
            ("piece", None), ("piece", "q"), ("piece", {}), ("piece", (("q", None),) * 13), ("piece", (["q", None],)),
            ("piece", (("q",),)), ("piece", (("q", None, None),)), ("piece", (("q", "a"),)), ("piece", (("q", ""),)),
            ("piece", (("q", "abcdefghi"),)), ("piece", (("qq", "go"),)), ("piece", (("", None),)), ("piece", (("Q", None),)),
            ("piece", ((None, None),)), ("piece", (("q", True),)), ("piece", (("q", False),)), ("piece", (("q", []),)),
            ("piece", ("qx",)), ("piece", ("q",)), ("piece", ("q", "go")), ("piece", (("q", "go"), None)),
            ("piece", ((["q"], None),)), ("piece", ((1, None),)), ("piece", (("q", ("go",)),)), ("piece", (("q", "Go"),)),
            ("piece", (("q", 0),)), ("piece", (("go", "q"),)), ("Piece", ()), ("pieces", ()), (b"piece", ()), (0, ()),
            ("said",), ("said", (), ()), ("said", []), ("said", ["go"]), ("said", "go"), ("said", ("go",) * 7),
            ("said", ("a",)), ("said", ("",)), ("said", (None,)), ("said", ("go", "q")), ("said", ("abcdefghi",)),
            ("said", ("Go",)), ("said", (True,)), ("said", ([],)), ("said", (("go",),)), ("said", None), ("said", {}),
            ["said", ("go",)], ("slot", "x"), ("slot", "x", EVERY, EVERY), ["slot", "x", EVERY], ("slot", "", EVERY),
            ("slot", "abcdefghi", EVERY), ("slot", "X", EVERY), ("slot", "a1", EVERY), ("slot", None, EVERY),
            ("slot", True, EVERY), ("slot", ["x"], EVERY), ("slot", ("x",), EVERY), ("slot", 1, EVERY), ("slot", b"x", EVERY),
            ("slot", "x", None), ("slot", "x", "ab"), ("slot", "x", READER), ("slot", "x", repr(EVERY)), ("slot", "x", Language),
            ("slot", "x", [EVERY]), ("slot", "x", True), ("slot", EVERY, "x"), ("x", "slot", EVERY), (None, "x", EVERY),
            (True, ()), ([], ()), ({}, "x", EVERY), (["piece"], ()), ("piece", ("said", ())), ("said", (("q", "go"),)),
            (Same(), ()), (Same(), "x", EVERY), ("piece", (("q", Same()),)), ("said", (Same(),)), Same(),
            EVERY, READER, Template(READER, [GO])]

    def test_wrong_parts(self):
        for part in self.wrong_parts():
            self.refused("part", 0, [part])
            self.refused("part", 1, (GO, part))
            self.refused("part", 2, [slot("x"), slot("y"), part, None])
            self.refused("part", 11, [GO] * 11 + [part])

    def test_slots(self):
        four = [slot("d"), GO, slot("c"), GO, slot("b"), GO, slot("a")]
        self.assertEqual(Template(READER, four).slots(), ["d", "c", "b", "a"])
        for parts in [four + [GO, slot("e")], four + [slot("a")], [slot("a")] * 5, [slot("a", NONE)] * 12]:
            self.refused("slots", None, parts)
        self.refused("part", 9, four + [GO, slot("e"), None])

    def test_names(self):
        self.refused("name", 2, [slot("x"), GO, slot("x")])
        self.refused("name", 2, [slot("x"), GO, slot("x", FEW)])
        self.refused("name", 4, [slot("x"), GO, slot("y"), GO, slot("x"), GO, slot("y")])
        self.refused("name", 6, [slot("x"), GO, slot("y"), GO, slot("z"), GO, slot("y")])
        self.refused("name", 5, [BEGIN, slot("x"), GO, slot("xx"), GO, slot("xx")])

    def test_languages_without_texts(self):
        self.refused("empty", 0, [slot("x", NONE)])
        self.refused("empty", 3, [slot("x", FEW), GO, GO, slot("y", NONE), GO, slot("z", NONE)])
        self.refused("empty", 1, [BEGIN, slot("x", Language("ab", [{"a": 1, "b": 1}, {"a": 0, "b": 1}], [])), END])

    def test_marks_between_slots(self):
        silent = ("piece", (("q", None), ("p", None)))
        for between in [[], [silent], [("said", ())], [silent, ("said", ()), ("piece", ())]]:
            self.refused("mark", len(between) + 1, [slot("x")] + between + [slot("y")])
            self.refused("mark", len(between) + 2, [GO, slot("x")] + between + [slot("y"), GO])
            for index in range(len(between) + 1):
                for mark in [GO, BEGIN, ("said", ("none",)), ("piece", (("q", None), ("z", "none"))), ("said", ("go",) * 6)]:
                    parts = [slot("x")] + between[:index] + [mark] + between[index:] + [slot("y")]
                    self.assertEqual(Template(READER, parts).parts(), parts)
        # A mark between earlier slots, or behind the last one, does not count.
        self.refused("mark", 3, [slot("x"), GO, slot("y"), slot("z")])
        self.refused("mark", 2, [slot("x"), silent, slot("y"), GO])
        self.refused("mark", 3, [GO, slot("x"), silent, slot("y"), GO])
        self.refused("mark", 1, [slot("x"), slot("y"), slot("z")])

    def test_several_faults(self):
        self.refused("parts", None, [None] * 13)
        self.refused("part", 1, [slot("x", NONE), None, slot("x"), slot("x"), slot("x"), slot("x")])
        self.refused("slots", None, [slot("x", NONE), slot("x"), slot("x"), slot("x"), slot("x")])
        self.refused("name", 1, [slot("x"), slot("x", NONE)])
        self.refused("empty", 1, [slot("x"), slot("y", NONE)])
        self.refused("empty", 0, [slot("x", NONE), slot("x", NONE)])
        self.refused("mark", 1, [slot("x"), slot("y"), slot("x")])
        self.refused("mark", 1, [slot("x"), slot("y"), GO, slot("z", NONE)])
        self.refused("name", 2, [slot("x"), GO, slot("x", NONE), slot("y")])
        self.refused("empty", 2, [slot("x"), GO, slot("y", NONE), slot("y"), slot("x")])

    def test_parts_that_the_reader_does_not_have(self):
        parts = [("piece", (("z", "never"),)), ("slot", "x", Language.every("wxyz")), ("said", ("nowhere",))]
        self.assertEqual(Template(READER, parts).row({"x": "wz"}), ("never", "w", "z", "nowhere"))


class TemplateTest(Case):
    def setUp(self):
        self.parts = [BEGIN, slot("text"), END, ("said", ("go", "on")), slot("more", FEW), ("piece", (("q", None),))]
        self.template = Template(READER, self.parts)

    def test_queries(self):
        template = Template(parts=tuple(self.parts), reader=READER)
        self.assertEqual((template.reader, template.parts(), template.slots(), len(template)),
                         (READER, self.parts, ["text", "more"], 6))
        self.assertEqual((type(template.parts()), type(template.slots())), (list, list))
        self.assertEqual((template.language_of("text"), template.language_of(name="more")), (EVERY, FEW))
        self.assertEqual((Template(READER, [GO]).slots(), Template(READER, [GO]).row({})), ([], ("go",)))

    def test_unknown_slots(self):
        for value in OTHER_VALUES + ["texts", "piece", "slot", "", "Text", 0, ["text"], ("text",), {"text": 1}, EVERY]:
            with self.assertRaises(UnknownSlot) as caught:
                self.template.language_of(value)
            self.assertIs(caught.exception.name, value)
        self.assertRaises(UnknownSlot, Template(READER, [GO]).language_of, "text")

    def test_rows(self):
        for text, more, row in [("", "", ("begin", "end", "go", "on")),
                                ("aab", "ba", ("begin", "a", "a", "b", "end", "go", "on", "b", "a")),
                                ("b" * 60, "", ("begin",) + ("b",) * 60 + ("end", "go", "on"))]:
            found = self.template.row({"text": text, "more": more})
            self.assertEqual((type(found), found), (tuple, row))
            self.assertEqual(self.template.row(texts={"more": more, "text": text}), row)

    def wrong_texts(self, problem, name, texts, template=None):
        with self.assertRaises(InvalidTexts) as caught:
            (template or self.template).row(texts)
        self.assertEqual((caught.exception.problem, caught.exception.name), (problem, name))

    def test_wrong_names(self):
        for value in OTHER_VALUES + ["", "text", 0, {"text": ""}, {"more": ""}, {"text": "", "more": "", "most": ""},
                                     {"text": "", "mores": ""}, {"text": "", None: ""}, {"text": "", True: "", 3: ""},
                                     [("text", ""), ("more", "")], {"text", "more"}, ("text", "more"), {("text", "more"): ""},
                                     {"text": None, "less": None}]:
            self.wrong_texts("names", None, value)
        for value in OTHER_VALUES + [{"text": ""}, {None: ""}, {(): ""}]:
            if value != {}:
                self.wrong_texts("names", None, value, Template(READER, [BEGIN, GO]))

    def test_wrong_texts(self):
        for value in OTHER_VALUES + ["c", "abc", "A", 0, EVERY]:
            self.wrong_texts("text", "text", {"text": value, "more": ""})
            self.wrong_texts("text", "text", {"more": value, "text": value})
            self.wrong_texts("text", "more", {"text": "ab", "more": value})
        for more in ["a", "b", "ab", "baa"]:
            self.wrong_texts("text", "more", {"text": "", "more": more})
            self.wrong_texts("text", "text", {"more": more, "text": "z"})

    def test_equality(self):
        same = Template(Reader([{"q": (1, "begin")}, {"r": (1, "b"), "p": (1, "a"), "q": (2, "end")}, {}], (2,)),
                        tuple(self.parts[:1]) + (("slot", "text", Language("ab", [{"a": 0, "b": 0}], [0])),)
                        + tuple(self.parts[2:]))
        self.assertTrue(self.template == same)
        self.assertFalse(self.template != same)
        others = [Template(Reader([{}]), self.parts), Template(READER, self.parts[:-1]), Template(READER, self.parts + [GO]),
                  Template(READER, [GO] + self.parts[1:]), Template(READER, [BEGIN, slot("other")] + self.parts[2:]),
                  Template(READER, [BEGIN, slot("text", FEW)] + self.parts[2:]), Template(READER, self.parts[::-1]),
                  Template(READER, self.parts[:3] + [("said", ("on", "go"))] + self.parts[4:]),
                  Template(READER, self.parts[:-1] + [("piece", (("q", None), ("q", None)))])]
        for other in others + OTHER_VALUES + [self.parts, tuple(self.parts), READER, EVERY, (READER, self.parts), 6, ""]:
            self.assertFalse(self.template == other)
            self.assertTrue(self.template != other)
        self.assertTrue(Template(READER, [("piece", ())]) != Template(READER, [("said", ())]))

    def test_copies(self):
        parts = list(self.parts)
        template = Template(READER, parts)
        parts[0] = GO
        parts.append(GO)
        template.parts().append(GO)
        template.parts()[0] = None
        template.slots().clear()
        texts = {"text": "a", "more": ""}
        template.row(texts)
        self.assertEqual(texts, {"text": "a", "more": ""})
        self.assertEqual((template.parts(), template.slots(), len(template)), (self.parts, ["text", "more"], 6))
        self.assertTrue(template == self.template)

    def test_repeated(self):
        other = Template(READER, [slot("text", FEW)])
        first = [self.template.row({"text": "a", "more": ""}), self.template.language_of("text"), self.template.slots()]
        other.row({"text": "ba"})
        self.assertEqual(other.language_of("text"), FEW)
        self.assertRaises(InvalidTexts, self.template.row, {"text": "z", "more": ""})
        self.assertRaises(InvalidTemplate, Template, READER, [None])
        self.assertEqual([self.template.row({"text": "a", "more": ""}), self.template.language_of("text"),
                          self.template.slots()], first)


if __name__ == "__main__":
    unittest.main()
