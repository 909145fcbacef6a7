"""[47], [48] Workshops: random commands, compared with a workshop that keeps copies of all that it was; and examples."""

import itertools
import random
import unittest

from sealedslots import errors
from sealedslots.documents import Document
from sealedslots.errors import (InvalidCommand, InvalidReader, InvalidTemplate, InvalidText, InvalidTexts, NameTaken, NotMember, NotSealed,
                                NothingToUndo, NoWay, RunFailed, TooLarge, UnknownName, UnknownSlot)
from sealedslots.languages import Language
from sealedslots.pages import reading
from sealedslots.readers import Reader
from sealedslots.templates import Template
from sealedslots.texts import template_text
from sealedslots.workshop import Workshop
from tests.cases import Case
from tests.samples import OTHER_VALUES
from tests.slow_workshop import SlowWorkshop

READER = "reader 2 0\nend\np 0 a\nq 1 b\nr 0 go\nend\np 1 a\nr 0 go\ns 1 -\n"
LANGUAGE = "language ab 3\nstate 1 2\nmember 1 2\nstate 2 2\n"
EMPTY, BLANK = "language a 1\nstate 0\n", "language ab 2\nmember 1 1\nstate 1 1\n"
EVERY = "language a 1\nmember 0\n"
TEMPLATE = f"template 3\n{READER}slot x\n{EVERY}said go\nslot y\n{EVERY}"
FIXED = f"template 1\n{READER}said\n"
REFUSED = f"template 1\n{READER}slot z\nlanguage ab 1\nmember 0 0\n"
OPEN = f"template 1\n{READER}slot z\nlanguage ab 3\nmember 1 1\nmember 2 2\nstate 2 2\n"
DEFINED = {"r": READER, "l": LANGUAGE, "e": EMPTY, "b": BLANK, "t": TEMPLATE, "f": FIXED, "n": REFUSED, "o": OPEN}


def filled_workshop():
    workshop = Workshop()
    for name, text in DEFINED.items():
        workshop.execute(f"define {name}\n{text}")
    workshop.execute("write p t x=a y=-")
    return workshop


class RandomTest(Case):
    NAMES = ["r", "l", "t", "f", "n", "p", "pp", "z", "z", "longname"]

    def command(self, rng):
        name, other, text = rng.choice(self.NAMES), rng.choice(self.NAMES), lambda: rng.choice(["-", "a", "a", "aa", "aa", "b", "aba"])
        what = rng.choice(["define", "define", "write", "write", "write", "change", "change", "change", "drop", "undo", "undo", "names", "show",
                           "texts", "sealed", "vectors", "read", "least", "wrong"])
        if what == "define":
            value = rng.choice(list(DEFINED.values()))
            if rng.random() < 0.15:
                value = rng.choice([value[:-1], value + "x\n", "", "other", value.replace("go", "b"), "reader", "language a 0\n"])
            return f"define {name}\n{value}"
        if what == "write":
            template = rng.choice(["t", "t", "f", other])
            slots = {"t": ["x", "y"], "f": []}.get(template, ["z"])
            if rng.random() < 0.1:
                slots = rng.choice([["y", "x"], [], ["x"], ["x", "x"], ["x", "y", "z"]])
            return " ".join(["write", rng.choice(["p", "pp", name]), template] + [f"{slot}={text()}" for slot in slots])
        if what == "change":
            return f"change {rng.choice(['p', 'p', 'pp', 'pp', name])} {rng.choice('xxyyz')}={text()}"
        if what in ("undo", "names"):
            return what
        if what == "read":
            return f"read {rng.choice(['r', name])} {rng.choice(['-', 'p', 'pq', 'qrs', 'z', 'pz'])}"
        if what == "wrong":
            return rng.choice(["", "undo ", "names x", "show", "read r", "change p x", "write p", " undo", "define x", "show r\n", "Undo", None])
        if what == "drop":
            return f"drop {rng.choice(['z', 'pp', name])}"
        kinds = {"show": "rltfnp", "texts": "pp", "sealed": "tfno", "vectors": "tfno", "least": "leb"}
        return f"{what} {rng.choice([rng.choice(kinds[what]), name])}"

    def check_same(self, workshop, slow):
        self.assertEqual(workshop.names(), sorted(slow.things))
        self.assertEqual(workshop.log(), slow.log)
        self.assertEqual(len(workshop), len(slow.things))
        for name in workshop.names():
            self.assertTrue(workshop.thing(name) == slow.things[name])

    def same_results(self, call, slow_call, counts):
        try:
            wanted, error = slow_call(), None
        except (errors.SlotsError, LookupError, RuntimeError, ArithmeticError) as caught:
            error = caught
        if error is None:
            self.assertEqual(call(), wanted)
            return
        with self.assertRaises(type(error)) as caught:
            call()
        self.assertEqual(vars(caught.exception), vars(error))
        if isinstance(error, RunFailed):
            self.assertEqual(type(caught.exception.__cause__), type(error.__cause__))
            self.assertEqual(vars(caught.exception.__cause__), vars(error.__cause__))
            error = error.__cause__
        counts[type(error).__name__] = counts.get(type(error).__name__, 0) + 1

    def test_random_commands(self):
        rng, counts = random.Random(491), {}
        for number in range(150):
            workshop, slow = Workshop(), SlowWorkshop()
            if number % 5:
                for name, text in DEFINED.items():
                    self.assertEqual(workshop.execute(f"define {name}\n{text}"), slow.execute(f"define {name}\n{text}"))
            for _ in range(40):
                what = rng.random()
                if what < 0.75:
                    command = self.command(rng)
                    self.same_results(lambda: workshop.execute(command), lambda: slow.execute(command), counts)
                else:
                    commands = [self.command(rng) for _ in range(rng.randint(0, 5))]
                    if what < 0.9:
                        self.same_results(lambda: workshop.run(*commands), lambda: slow.run(*commands), counts)
                    else:
                        copy = SlowWorkshop()
                        copy.things, copy.before, copy.log = dict(slow.things), list(slow.before), list(slow.log)
                        self.same_results(lambda: workshop.rehearse(*commands), lambda: copy.run(*commands), counts)
                self.check_same(workshop, slow)
            again = Workshop.replay(workshop.log())
            self.assertTrue(again == workshop)
            self.check_same(again, slow)
        names = ["InvalidCommand", "UnknownName", "NameTaken", "InvalidText", "InvalidTexts", "UnknownSlot", "NotMember", "NothingToUndo"]
        self.assertGreater(min(counts.get(name, 0) for name in names), 5, counts)


class CommandsTest(Case):
    def setUp(self):
        self.workshop = filled_workshop()

    def check(self, pairs):
        for command, result in pairs:
            found = self.workshop.execute(command)
            self.assertEqual((type(found), found), (str, result), command)
            self.assertEqual(self.workshop.log()[-1], (command, result))

    def test_define_and_names(self):
        self.check([("names", "b:language e:language f:template l:language n:template o:template p:page r:reader t:template"),
                    (f"define abcdefgh\n{EVERY}", "ok"), ("drop abcdefgh", "ok"), ("drop p", "ok"),
                    ("names", "b:language e:language f:template l:language n:template o:template r:reader t:template")])
        self.assertEqual(Workshop().execute("names"), ".")

    def test_write_and_change(self):
        self.check([("write q t x=- y=aa", "rpp"), ("show q", "rpp"), ("texts q", "x=- y=aa"), ("change q x=aaa", "ppprpp"), ("change q y=-", "pppr"),
                    ("texts q", "x=aaa y=-"), ("write g f", "-"), ("show g", "-"), ("texts g", "."), ("show p", "pr"), ("write h o z=-", "-"),
                    ("change h z=b", "q"), ("change h z=-", "-"), ("texts h", "z=-")])

    def test_show(self):
        for name, text in DEFINED.items():
            if name != "l":
                self.check([(f"show {name}", text)])
        # A language is shown by its least machine.
        self.check([("show l", "language ab 3\nstate 1 2\nmember 1 2\nstate 2 2\n"), (f"define k\nlanguage a 2\nmember 1\nmember 0\n", "ok"),
                    ("show k", EVERY)])
        self.assertEqual(template_text(self.workshop.thing("t")), TEMPLATE)

    def test_sealed_and_vectors(self):
        two = f"template 1\nreader 3 0\nstate\np 1 a\nq 2 a\nend\np 1 a\nstate\nq 2 a\nr 1 b\nslot x\nlanguage ab 4\nstate 1 2\nmember 1 3\nstate 2 2\nmember 2 2\n"
        self.check([("sealed t", "yes"), ("vectors t", "00"), ("sealed n", "no"), ("vectors n", "."), ("sealed f", "yes"), ("vectors f", "-"),
                    (f"define two\n{two}", "ok"), ("sealed two", "yes"), ("vectors two", "4")])
        never = f"template 1\n{READER}said other\n"
        self.check([(f"define never\n{never}", "ok"), ("sealed never", "no"), ("vectors never", ".")])

    def test_read(self):
        self.check([("read r -", "."), ("read r prq", "a go b"), ("read r z", "unreadable 0"), ("read r pqq", "unreadable 2"), ("read r qs", "b"),
                    (f"define s\nreader 1 0\nstate\np 0 -\n", "ok"), ("read s -", "unreadable 0"), ("read s pp", "unreadable 2")])

    def test_least(self):
        self.check([("least l", "a"), ("least e", "."), ("least b", "-"), (f"define every\n{EVERY}", "ok"), ("least every", "-")])

    def test_undo(self):
        workshop = Workshop()
        for name in "rt":
            workshop.execute(f"define {name}\n{DEFINED[name]}")
        workshop.run("write p t x=a y=a", "change p x=-", "names")
        workshop.execute("drop t")
        for wanted, names, page in [("4", ["p", "r", "t"], "rp"), ("3", ["p", "r", "t"], "prp"), ("2", ["r", "t"], None), ("1", ["r"], None), ("0", [], None)]:
            self.assertEqual(workshop.execute("undo"), wanted)
            self.assertEqual(workshop.names(), names)
            if page is not None:
                self.assertEqual(workshop.thing("p").page, page)
        self.assertRaises(NothingToUndo, workshop.execute, "undo")
        self.assertEqual([command.split("\n")[0] for command, _ in workshop.log()],
                         ["define r", "define t", "write p t x=a y=a", "change p x=-", "names", "drop t"] + ["undo"] * 5)
        # Behind an undo, other commands can be undone again.
        workshop.execute(f"define r\n{READER}")
        self.assertEqual((workshop.execute("undo"), workshop.names()), ("0", []))

    def test_undo_of_a_drop_and_of_a_name_that_stands_for_something_else(self):
        self.check([("drop p", "ok"), (f"define p\n{EVERY}", "ok"), ("least p", "-"), ("undo", "10"), ("undo", "9"), ("show p", "pr"),
                    ("change p y=a", "prp"), ("drop p", "ok"), ("write p t x=- y=-", "r"), ("undo", "11"), ("undo", "10"), ("show p", "prp"),
                    ("undo", "9"), ("show p", "pr")])

    def test_queries_are_not_undone(self):
        self.check([("change p x=-", "r"), ("names", self.workshop.execute("names")), ("show p", "r"), ("undo", "9"), ("show p", "pr")])


class ErrorsTest(Case):
    def setUp(self):
        self.workshop = filled_workshop()

    def fails_with(self, error, places, command):
        before, log = self.workshop.clone(), self.workshop.log()
        with self.assertRaises(error) as caught:
            self.workshop.execute(command)
        self.assertEqual(tuple(vars(caught.exception).values()), places)
        self.assertEqual(type(caught.exception), error)
        self.assertTrue(self.workshop == before)
        self.assertEqual(self.workshop.log(), log)

    def test_values_that_are_no_commands(self):
        for value in OTHER_VALUES + [0, 7, ["undo"], b"undo", ("names",), "", " ", "\n", "other", "undo\n", "names\n", "undo undo",
                                     "undo ", " undo", "Undo", "UNDO", "undos", "names p", "define", "define ", "define x", "define\n",
                                     f"define X\n{READER}", f"define toolonger\n{READER}", f"define x y\n{READER}", f"define  x\n{READER}",
                                     f"define x \n{READER}", f"\ndefine x\n{READER}", f"define \n{READER}", f"define x1\n{READER}",
                                     "write", "write q", "write q t x", "write q t x=", "write q t =a", "write q t x=a=b", "write q t x=A",
                                     "write q t x=a ", "write q t  x=a", "write q t X=a y=a", "write q t x=a\n", "write Q t", "write q T", "write q -",
                                     "write q t toolonger=a", "write q t x=-a", "write q t x=--", "write q t x=a y", "write q t -=a",
                                     "change", "change p", "change p x", "change p x=", "change p x=a y=a", "change p x=a ", "change p x=1",
                                     "change p =a", "change P x=a", "change p x=a\n", "change p\nx=a", "drop", "drop p q", "drop P", "drop p\n",
                                     "drop -", "show", "show p q", "show -", "show p\n", "texts", "texts p p", "sealed", "sealed t t", "sealed T",
                                     "vectors", "vectors t ", "read", "read r", "read r p p", "read r P", "read r ", "read r 1", "read r p\n",
                                     "read -", "read R p", "read r --", "least", "least l l", "least L", "least 1", "define x\r\n" + READER]:
            self.fails_with(InvalidCommand, (value,), value)

    def test_unknown_names(self):
        for command, name in [("write q z x=a y=a", "z"), ("write p z", "z"), ("write q r x=a", "r"), ("write p p x=a", "p"), ("change z x=a", "z"),
                              ("change t x=a", "t"), ("drop z", "z"), ("show z", "z"), ("texts z", "z"), ("texts t", "t"), ("sealed p", "p"),
                              ("sealed r", "r"), ("vectors l", "l"), ("vectors z", "z"), ("read t pp", "t"), ("read z -", "z"), ("least r", "r"),
                              ("least z", "z"), ("write z zz", "zz"), ("texts r", "r"), ("least p", "p"), ("read l -", "l")]:
            self.fails_with(UnknownName, (name,), command)

    def test_names_that_are_taken(self):
        for command, name in [(f"define p\n{READER}", "p"), ("define r\nwrong", "r"), ("define t\n", "t"), ("write p t", "p"),
                              ("write t t x=a y=a", "t"), ("write r n z=a", "r"), ("write l t y=a x=a", "l")]:
            self.fails_with(NameTaken, (name,), command)

    def test_errors_of_define(self):
        for text, line in [("", 1), ("\n", 1), ("other\n", 1), ("Reader 1 0\nstate\n", 1), ("readers 1 0\n", 1), (" " + READER, 1), ("\n" + READER, 1),
                           ("reader", 1), ("reader 1 0", 1), ("reader 1 0\n", 2), (READER + "x", 10), (LANGUAGE + "\n", 5), (TEMPLATE[:-1], 17),
                           ("reader\n", 1), ("page\n", 1), ("template 1\n" + LANGUAGE, 2), ("-", 1)]:
            self.fails_with(InvalidText, (line,), f"define q\n{text}")
        seven = "language a 7\n" + "".join(f"state {state + 1}\n" for state in range(6)) + "member 6\n"
        self.fails_with(TooLarge, ("language states", 6), f"define q\n{seven}")
        self.fails_with(InvalidReader, ("signs", None), "define q\nreader 1 0\nend\n" + "".join(f"{sign} 0 -\n" for sign in "abcdefg"))
        self.fails_with(InvalidTemplate, ("mark", 1), f"define q\ntemplate 2\n{READER}slot x\n{EVERY}slot y\n{EVERY}")

    def test_errors_of_write(self):
        for rest in ["", " x=a", " y=a x=a", " x=a y=a z=a", " x=a x=a", " x=b", " x=b x=b y=b", " y=a", " z=- y=-"]:
            self.fails_with(InvalidTexts, ("names", None), f"write q t{rest}")
        self.fails_with(InvalidTexts, ("text", "x"), "write q t x=b y=b")
        self.fails_with(InvalidTexts, ("text", "y"), "write q t x=a y=b")
        self.fails_with(InvalidTexts, ("text", "z"), "write q n z=c")
        self.fails_with(NotSealed, (None,), "write q n z=a")
        self.fails_with(InvalidTexts, ("names", None), "write q n")
        self.fails_with(InvalidTexts, ("names", None), "write q f x=a")

    def test_errors_of_change(self):
        self.fails_with(UnknownSlot, ("z",), "change p z=a")
        self.fails_with(UnknownSlot, ("z",), "change p z=b")
        self.fails_with(NotMember, ("b",), "change p x=b")
        self.fails_with(NotMember, ("ab",), "change p y=ab")
        # Of the other templates a document can be written only if they are sealed, so that each change of it is possible.
        document = Document.of_page(Template(Reader([{"p": (0, "a")}], [0]), [("slot", "x", Language.every("ab"))]), "p")
        self.assertRaises(NoWay, document.change, "x", "b")

    def test_errors_of_undo(self):
        for _ in range(9):
            self.workshop.execute("undo")
        self.fails_with(NothingToUndo, (), "undo")
        self.assertEqual(len(self.workshop), 0)

    def test_several_at_once(self):
        self.fails_with(InvalidCommand, ("define r\r\nwrong",), "define r\r\nwrong")
        self.fails_with(InvalidCommand, ("write p z x",), "write p z x")
        self.fails_with(UnknownName, ("z",), "write p z y=b")
        self.fails_with(NameTaken, ("p",), "write p n y=c")
        self.fails_with(InvalidTexts, ("names", None), "write q n y=c")
        self.fails_with(InvalidTexts, ("text", "z"), "write q n z=c")
        self.fails_with(NotSealed, (None,), "write q n z=b")
        self.fails_with(NameTaken, ("n",), "define n\n")


class RunsTest(Case):
    def setUp(self):
        self.workshop = filled_workshop()

    def test_runs(self):
        self.assertEqual(self.workshop.run(), [])
        found = self.workshop.run("change p x=-", "show p", "undo", "drop p", "names")
        self.assertEqual((type(found), found[:4]), (list, ["r", "r", "9", "ok"]))
        self.assertEqual(self.workshop.log()[-5:-1], [("change p x=-", "r"), ("show p", "r"), ("undo", "9"), ("drop p", "ok")])
        self.assertEqual(self.workshop.execute("undo"), "9")

    def test_runs_that_fail_at_each_position(self):
        commands = ["change p x=-", "drop l", "undo", "write q t x=a y=-", "show q"]
        results = self.workshop.rehearse(*commands)
        for wrong, error, places in [("undo undo", InvalidCommand, ("undo undo",)), (None, InvalidCommand, (None,)), ("drop z", UnknownName, ("z",)),
                                     ("define r\n", NameTaken, ("r",)), ("define z\n", InvalidText, (1,)), ("write z n z=a", NotSealed, (None,)),
                                     ("change p x=b", NotMember, ("b",)), ("change p z=b", UnknownSlot, ("z",)), ([], InvalidCommand, ([],)),
                                     ("write z t x=b y=b", InvalidTexts, ("text", "x"))]:
            for position in range(6):
                before, log = self.workshop.clone(), self.workshop.log()
                for call in (self.workshop.run, self.workshop.rehearse):
                    with self.assertRaises(RunFailed) as caught:
                        call(*commands[:position], wrong, *commands[position:])
                    failed = caught.exception
                    self.assertEqual((failed.position, failed.results), (position, results[:position]))
                    self.assertEqual(type(failed.__cause__), error)
                    self.assertEqual(tuple(vars(failed.__cause__).values()), places)
                    self.assertTrue(self.workshop == before)
                    self.assertEqual(self.workshop.log(), log)

    def test_nothing_to_undo_and_large_machines_in_runs(self):
        workshop = Workshop()
        seven = "language a 7\n" + "".join(f"state {state + 1}\n" for state in range(6)) + "member 6\n"
        for wrong, error in [("undo", NothingToUndo), (f"define l\n{seven}", TooLarge)]:
            with self.assertRaises(RunFailed) as caught:
                workshop.run("names", wrong)
            self.assertEqual((caught.exception.position, caught.exception.results), (1, ["."]))
            self.assertIsInstance(caught.exception.__cause__, error)
        self.assertEqual(workshop.log(), [])

    def test_rehearse(self):
        before, log = self.workshop.clone(), self.workshop.log()
        self.assertEqual(self.workshop.rehearse("change p x=-", "drop t", "undo", "names")[:3], ["r", "ok", "10"])
        self.assertEqual(self.workshop.rehearse(), [])
        self.assertTrue(self.workshop == before)
        self.assertEqual((self.workshop.log(), self.workshop.execute("show p")), (log, "pr"))


class ObjectsTest(Case):
    def test_log_and_replay(self):
        workshop = filled_workshop()
        workshop.execute("undo")
        log = workshop.log()
        self.assertEqual((type(log), len(log), log[-1]), (list, 10, ("undo", "8")))
        self.assertTrue(all(type(entry) is tuple for entry in log))
        again = Workshop.replay(log)
        self.assertTrue(again == workshop)
        self.assertEqual(again.log(), log)
        # The results in the log do not matter.
        for results in [[None] * 10, ["wrong"] * 10, [[]] * 10]:
            other = Workshop.replay(log=[(command, result) for (command, _), result in zip(log, results)])
            self.assertTrue(other == workshop)
            self.assertEqual(other.log(), log)
        log.append(("names", "."))
        log[0] = None
        self.assertEqual(len(workshop.log()), 10)
        self.assertTrue(Workshop.replay([]) == Workshop())
        for entries, error in [([("undo", "0")], NothingToUndo), ([("names", "."), ("other", "")], InvalidCommand), ([("drop z", "ok")], UnknownName),
                               ([(5, None)], InvalidCommand)]:
            self.assertRaises(error, Workshop.replay, entries)

    def test_things(self):
        workshop = filled_workshop()
        self.assertEqual([type(workshop.thing(name)) for name in workshop.names()],
                         [Language, Language, Template, Language, Template, Template, Document, Reader, Template])
        self.assertEqual(workshop.thing(name="r"), workshop.thing("t").reader)
        document = workshop.thing("p")
        document.change("x", "aaa")
        self.assertEqual((document.page, workshop.thing("p").page, workshop.execute("show p")), ("pppr", "pr", "pr"))
        self.assertEqual(reading(workshop.thing("r"), workshop.thing("p").page), ("a", "go"))
        for value in OTHER_VALUES + ["z", "", "P", "p ", "toolonger", 0, ["p"], ("p",)]:
            with self.assertRaises(UnknownName) as caught:
                workshop.thing(value)
            self.assertIs(caught.exception.name, value)
            self.assertIs(value in workshop, False)
        for name in DEFINED:
            self.assertIs(name in workshop, True)
        workshop.execute("drop p")
        self.assertRaises(UnknownName, workshop.thing, "p")
        self.assertNotIn("p", workshop)

    def test_names_and_len(self):
        workshop = filled_workshop()
        names = workshop.names()
        self.assertEqual((names, len(workshop)), (sorted([*DEFINED, "p"]), 9))
        names.clear()
        self.assertEqual(len(workshop.names()), 9)
        self.assertEqual((len(Workshop()), Workshop().names(), Workshop().log()), (0, [], []))

    def test_clones(self):
        workshop = filled_workshop()
        copy = workshop.clone()
        self.assertTrue(copy == workshop)
        self.assertEqual(copy.log(), workshop.log())
        copy.execute("change p x=aa")
        workshop.execute("drop t")
        self.assertEqual((copy.log()[9:], workshop.log()[9:]), ([("change p x=aa", "ppr")], [("drop t", "ok")]))
        self.assertEqual((copy.execute("show p"), workshop.execute("show p")), ("ppr", "pr"))
        self.assertEqual(("t" in copy, "t" in workshop), (True, False))
        self.assertEqual((copy.execute("undo"), copy.execute("show p"), workshop.execute("undo"), len(workshop)), ("9", "pr", "9", 9))

    def test_equality(self):
        one, other = filled_workshop(), filled_workshop()
        self.assertTrue(one == other and not one != other)
        one.execute("names")
        self.assertTrue(one == other)
        one.execute("change p x=a")
        # The things are equal, but not how many commands can be undone.
        self.assertFalse(one == other)
        one.execute("undo")
        self.assertTrue(one == other)
        one.execute("change p x=-")
        other.execute("change p y=a")
        self.assertFalse(one == other)
        # Other commands with the same things behind them, and as many.
        first, second = Workshop(), Workshop()
        first.run(f"define a\n{EVERY}", f"define b\n{EMPTY}")
        second.run(f"define b\n{EMPTY}", f"define a\nlanguage a 2\nmember 1\nmember 0\n")
        self.assertTrue(first == second)
        third = Workshop()
        third.run(f"define a\n{EVERY}", f"define c\n{EMPTY}")
        self.assertFalse(first == third)
        for value in OTHER_VALUES + [{}, first.log(), Reader([{}])]:
            self.assertFalse(first == value or Workshop() == value)
            self.assertTrue(first != value)

    def test_independent_workshops_of_the_same_texts(self):
        one, other = filled_workshop(), filled_workshop()
        for change in ["change p x=aa", "drop r", "undo", "drop t"]:
            one.execute(change)
        self.assertEqual((other.execute("show p"), len(other), len(one)), ("pr", 9, 8))

    def test_results_of_failed_runs_are_new(self):
        workshop = filled_workshop()
        caught = []
        for _ in range(2):
            with self.assertRaises(RunFailed) as failed:
                workshop.run("names", "show p", "drop z")
            caught.append(failed.exception.results)
        caught[0].clear()
        self.assertEqual(len(caught[1]), 2)


class SequenceTest(unittest.TestCase):
    def test_undo_behind_each_kind_of_command(self):
        changes = ["change p x=-", "drop l", "write q t x=a y=-", f"define z\n{READER}", "drop p"]
        for chosen in itertools.permutations(changes, 3):
            workshop, states = filled_workshop(), []
            for command in chosen:
                states.append(workshop.clone())
                try:
                    workshop.execute(command)
                except UnknownName:
                    states.pop()
            for before in reversed(states):
                self.assertEqual(int(workshop.execute("undo")) + 1, 9 + len(states))
                states = states[:-1] if states else states
                self.assertTrue(workshop == before)


if __name__ == "__main__":
    unittest.main()
