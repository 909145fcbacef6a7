"""[45], [46] Texts of readers, languages and templates, and their faults: compared with patterns line by line."""

import random
import unittest

from sealedslots.errors import InvalidLanguage, InvalidReader, InvalidTemplate, InvalidText, TooLarge
from sealedslots.languages import Language
from sealedslots.readers import Reader
from sealedslots.templates import Template
from sealedslots.texts import language_text, parse_language, parse_reader, parse_template, reader_text, template_text
from tests.cases import Case, made
from tests.nested_samples import least
from tests.samples import OTHER_VALUES, class_count, copied_machine, random_machines, random_readers
from tests.slow_texts import parsed
from tests.template_samples import random_templates

PARSERS = {"reader": parse_reader, "language": parse_language, "template": parse_template}
READER = "reader 2 1\nstate\np 1 a\nq 0 -\nend\np 1 go\n"
LANGUAGE = "language ab 2\nstate 1 0\nmember 1 1\n"
TEMPLATE = "template 4\n" + READER + "piece p=go q\nslot x\n" + LANGUAGE + "said\nsaid go stop\n"
TEXTS = {"reader": READER, "language": LANGUAGE, "template": TEMPLATE}


def reader_lines(spec):
    states, ends, start = spec
    lines = [f"reader {len(states)} {start}"]
    for state, moves in enumerate(states):
        lines.append("end" if state in ends else "state")
        lines += [f"{sign} {after} {told or '-'}" for sign, (after, told) in sorted(moves.items())]
    return lines


def language_lines(machine):
    signs, states, members = machine
    return [f"language {signs} {len(states)}"] + [
        " ".join(["member" if state in members else "state"] + [str(moves[sign]) for sign in signs]) for state, moves in enumerate(states)]


def template_lines(spec, parts, machines):
    lines = [f"template {len(parts)}"] + reader_lines(spec)
    for part in parts:
        if part[0] == "slot":
            lines += [f"slot {part[1]}"] + language_lines(least(machines[part[1]]))
        elif part[0] == "said":
            lines.append(" ".join(["said", *part[1]]))
        else:
            lines.append(" ".join(["piece"] + [sign + (f"={told}" if told else "") for sign, told in part[1]]))
    return lines


def text_of(lines):
    return "".join(line + "\n" for line in lines)


class TextsTest(Case):
    def test_readers(self):
        for spec in random_readers(481, 200, most_states=12, page_signs="abqz", density=0.5):
            text = text_of(reader_lines(spec))
            self.assertEqual(reader_text(made(spec)), text)
            self.assertEqual(parse_reader(text), made(spec))
            self.assertEqual(reader_text(reader=parse_reader(text=text)), text)

    def test_languages(self):
        rng = random.Random(482)
        larger = 0
        for signs in ["a", "ab", "abz", "bcyz"]:
            for machine in random_machines(483, 80, signs=signs):
                if class_count(machine) > 6:
                    continue
                language, text = Language(*machine), text_of(language_lines(least(machine)))
                self.assertEqual(language_text(language), text)
                self.assertEqual(language_text(language=parse_language(text=text)), text)
                # Machines that are not least, of up to 40 states.
                other = copied_machine(rng, machine, rng.choice([5, 13, 40]))
                self.assertEqual(parse_language(text_of(language_lines(other))), language)
                larger += len(other[1]) == 40
        self.assertGreater(larger, 10)

    def test_templates(self):
        for spec, parts, machines in random_templates(484, 300, most_states=5):
            text = text_of(template_lines(spec, parts, machines))
            template = Template(made(spec), parts)
            self.assertEqual(template_text(template), text)
            self.assertEqual(parse_template(text), template)
            self.assertEqual(template_text(template=parse_template(text=text)), text)

    def test_examples(self):
        reader = Reader([{"q": (0, None), "p": (1, "a")}, {"p": (1, "go")}], [1], start=1)
        self.assertEqual((reader_text(reader), parse_reader(READER)), (READER, reader))
        language = Language("ab", [{"a": 1, "b": 0}, {"a": 1, "b": 1}], [1])
        self.assertEqual((language_text(language), parse_language(LANGUAGE)), (LANGUAGE, language))
        parts = [("piece", (("p", "go"), ("q", None))), ("slot", "x", language), ("said", ()), ("said", ("go", "stop"))]
        self.assertEqual((template_text(Template(reader, parts)), parse_template(TEMPLATE)), (TEMPLATE, Template(reader, parts)))
        self.assertEqual(reader_text(Reader([{}])), "reader 1 0\nstate\n")
        self.assertEqual(language_text(Language("a", [{"a": 0}], [])), "language a 1\nstate 0\n")
        self.assertEqual(language_text(Language.of("ab", "", "b")), "language ab 3\nmember 1 2\nstate 1 1\nmember 1 1\n")
        self.assertEqual(template_text(Template(Reader([{}]), [("piece", ())])), "template 1\nreader 1 0\nstate\npiece\n")

    def test_largest(self):
        reader = Reader([{sign: ((state + 1) % 12, "longname") for sign in "uvwxyz"} for state in range(12)], list(range(12)), start=11)
        self.assertEqual(parse_reader(reader_text(reader)), reader)
        parts = [("piece", (("z", "longname"),) * 12), ("said", ("longname",) * 6)] * 6
        self.assertEqual(parse_template(template_text(Template(reader, parts))), Template(reader, parts))
        long = "language ab 40\n" + "".join(f"state {(state + 1) % 40} {state}\n" for state in range(40))
        self.assertEqual(parse_language(long), Language("ab", [{"a": 0, "b": 0}], []))


class FaultsTest(Case):
    def fault(self, kind, value, line):
        with self.assertRaises(InvalidText) as caught:
            PARSERS[kind](value)
        self.assertEqual(caught.exception.line, line, value)

    def test_values_that_are_no_strings(self):
        for kind in PARSERS:
            for value in OTHER_VALUES + [0, [READER], READER.encode()]:
                if not isinstance(value, str):
                    self.fault(kind, value, 0)
                else:
                    self.fault(kind, value, 1)
            self.fault(kind, "", 1)
            self.fault(kind, "\n", 1)

    def test_each_line_without_its_line_feed_or_missing(self):
        for kind, text in TEXTS.items():
            PARSERS[kind](text)
            lines = text.splitlines()
            for many in range(len(lines)):
                kept = lines[:many]
                if kind == "reader" and many in (5,):
                    # Moves may be missing.
                    self.assertEqual(len(parse_reader(text_of(kept))), 2)
                else:
                    self.fault(kind, text_of(kept), many + 1)
                self.fault(kind, text_of(kept) + lines[many], many + 1)
            self.fault(kind, text + "\n", len(lines) + 1)
            self.fault(kind, text + "state\n", len(lines) + 1)
            self.fault(kind, text + "x", len(lines) + 1)
            self.fault(kind, text + text, len(lines) + 1)
            self.fault(kind, "\n" + text, 1)
            self.fault(kind, " " + text, 1)

    def test_each_line_with_another_form(self):
        for kind, text in TEXTS.items():
            lines = text.splitlines()
            for at in range(len(lines)):
                for line in ["", " ", lines[at] + " ", " " + lines[at], lines[at].replace(" ", "  ") + " ", lines[at] + "\t", "other",
                             lines[at].upper(), lines[at] + "-", "-", "0", lines[at] + "\n"]:
                    fault, _ = parsed(kind, text_of(lines[:at] + [line] + lines[at + 1:]))
                    if fault is None:
                        # A text line may be another right one, as a name that is longer.
                        PARSERS[kind](text_of(lines[:at] + [line] + lines[at + 1:]))
                        continue
                    self.assertIn(fault, (at + 1, at + 2))
                    self.fault(kind, text_of(lines[:at] + [line] + lines[at + 1:]), fault)

    def test_lines_of_readers(self):
        for line in ["reader 0 0", "reader 13 0", "reader 2 2", "reader 02 1", "reader 2 01", "reader +2 1", "reader 2 -1", "reader 2", "reader 2 1 ",
                     "reader  2 1", "readers 2 1", "reader 2 1 0", "reader 2 1.0", "reader 2 one", "reader 100 1", "reader 2_0 1", "reader 2 ",
                     "language ab 2", "reader\t2 1", "reader 2 1\r", "reader 1" + "0" * 29 + " 1", "reader 2 " + "9" * 30]:
            self.fault("reader", READER.replace("reader 2 1", line), 1)
        for line in ["p 2 a", "p 1", "p 1 a b", "p 1 A", "p 1 ", "P 1 a", "pq 1 a", " 1 a", "p 01 a", "p -1 a", "p 1 toolonger", "p 1 a-", "p 1 --",
                     "p 1 a b", "q 1 a", "r 1 a", "p  1 a", "p 1  a", "p 1 1", "states", "State", "end 0"]:
            fault = 4 if line in ("q 1 a", "r 1 a") else 3
            self.fault("reader", READER.replace("p 1 a", line), fault)
        # Two moves with the same sign, and the descending ones: the later line is wrong.
        self.fault("reader", READER.replace("q 0 -", "p 0 -"), 4)
        self.fault("reader", READER.replace("q 0 -", "o 0 -"), 4)
        self.fault("reader", READER.replace("end\n", "end\nend\n"), 6)
        self.fault("reader", READER.replace("state\n", ""), 2)

    def test_numbers_of_another_script(self):
        # Digits that int takes, too; such characters are not promised, but they are no numbers here.
        for digit in "\u0662\u0968\uff12\u00b2":
            self.fault("reader", f"reader {digit} 1\n" + READER.split("\n", 1)[1], 1)
            self.fault("language", LANGUAGE.replace("member 1", f"member {digit}"), 3)

    def test_lines_of_languages(self):
        for line in ["language ba 2", "language aa 2", "language abcde 2", "language  2", "language ab 0", "language ab 41", "language ab 02", "language ab",
                     "language ab 2 2", "language Ab 2", "language - 2", "language 2 ab", "reader 2 1", "languages ab 2", "language a1 2"]:
            self.fault("language", LANGUAGE.replace("language ab 2", line), 1)
        for line in ["state 1", "state 1 0 0", "state 1 2", "state 2 0", "state", "end 1 0", "State 1 0", "state 1 00", "state 1 -", "state  1 0",
                     "state 1 0 ", "1 0", "state a b", "state 1 +0"]:
            self.fault("language", LANGUAGE.replace("state 1 0", line), 2)
        self.fault("language", LANGUAGE + "member 1 1\n", 4)
        self.fault("language", LANGUAGE.replace("language ab 2", "language ab 3"), 4)
        self.fault("language", LANGUAGE.replace("language ab 2", "language a 2"), 2)

    def test_lines_of_templates(self):
        for line in ["template 0", "template 13", "template", "template 4 4", "template 04", "templates 4", "reader 2 1", "template four"]:
            self.fault("template", TEMPLATE.replace("template 4", line), 1)
        for line in ["piece p=g q", "piece p=go=go q", "piece p= q", "piece =go q", "piece pq", "piece P", "piece p=-", "piece  p", "pieces p",
                     "piece p=toolonger", "piece" + " p" * 13, "piece - p", "piece p = go", "slots x", "other"]:
            self.fault("template", TEMPLATE.replace("piece p=go q", line), 8)
        for line in ["said g", "said go stop ", "said" + " go" * 7, "said go=stop", "said  go", "said GO", "Said go", "said -", "said toolonger"]:
            self.fault("template", TEMPLATE.replace("said go stop", line), 14)
        for line in ["slot", "slot X", "slot x y", "slot toolonger", "slot -", "slot  x", "slot 1", "slot x=a"]:
            self.fault("template", TEMPLATE.replace("slot x", line), 9)
        self.fault("template", TEMPLATE.replace("template 4", "template 3"), 14)
        self.fault("template", TEMPLATE.replace("template 4", "template 5"), 15)
        self.fault("template", TEMPLATE.replace("reader 2 1", "reader 3 1"), 8)
        self.fault("template", TEMPLATE.replace("language ab 2", "language ab 1"), 11)
        self.fault("template", TEMPLATE.replace("slot x\n", ""), 9)
        self.fault("template", TEMPLATE.replace(LANGUAGE, ""), 10)
        parse_template(TEMPLATE.replace("piece p=go q", "piece" + " p" * 12).replace("said go stop", "said" + " go" * 6))

    def mutated(self, rng, text):
        for _ in range(rng.choice([1, 1, 2, 3])):
            what, at = rng.choice(["drop", "add", "change", "line", "double", "swap", "feed"] + ["like"] * 5), rng.randrange(len(text) or 1)
            lines = text.split("\n")
            if what == "like":
                # A digit in the place of a digit, a letter in the place of a letter.
                like = "0123" if text[at:at + 1].isdigit() else "abpqrwx" if text[at:at + 1].isalpha() else text[at:at + 1] or " "
                text = text[:at] + rng.choice(like) + text[at + 1:]
            elif what == "drop":
                text = text[:at] + text[at + 1:]
            elif what == "add":
                text = text[:at] + rng.choice(" \n-=0129apz") + text[at:]
            elif what == "change":
                text = text[:at] + rng.choice(" \n-=0123apqz") + text[at + 1:]
            elif what == "feed":
                text = text[:-1]
            else:
                place = rng.randrange(len(lines))
                line = lines.pop(place)
                lines[place:place] = [] if what == "line" else [line, line]
                if what == "swap":
                    rng.shuffle(lines)
                text = "\n".join(lines)
        return text

    def test_random_texts(self):
        rng = random.Random(485)
        counts = {"fault": 0, "right": 0, "error": 0}
        samples = [("reader", text_of(reader_lines(spec))) for spec in random_readers(486, 150)]
        samples += [("language", text_of(language_lines(machine))) for machine in random_machines(487, 150, signs="abc", most_states=10)]
        samples += [("template", text_of(template_lines(*sample))) for sample in random_templates(488, 150)]
        for kind, text in samples:
            for _ in range(25):
                value = self.mutated(rng, text)
                fault, found = parsed(kind, value)
                if fault is not None:
                    self.fault(kind, value, fault)
                    counts["fault"] += 1
                    continue
                wanted, error = self.thing(kind, found)
                if error is None:
                    self.assertEqual(PARSERS[kind](value), wanted)
                    counts["right"] += 1
                else:
                    with self.assertRaises(type(error)) as caught:
                        PARSERS[kind](value)
                    self.assertEqual(vars(caught.exception), vars(error))
                    counts["error"] += 1
        self.assertGreater(min(counts.values()), 15, counts)

    def thing(self, kind, found):
        """What the text says, or the error that comes first."""
        try:
            if kind == "reader":
                return made(found), None
            if kind == "language":
                return Language(*found), None
            reader, parts = made(found[0]), []
            for part in found[1]:
                parts.append(("slot", part[1], Language(*part[2])) if part[0] == "slot" else part)
            return Template(reader, parts), None
        except (InvalidReader, InvalidLanguage, InvalidTemplate, TooLarge) as error:
            return None, error


class ErrorsTest(Case):
    def fails_with(self, error, places, call):
        with self.assertRaises(error) as caught:
            call()
        self.assertEqual(tuple(vars(caught.exception).values()), places)

    def test_readers(self):
        many = "reader 1 0\nstate\n" + "".join(f"{sign} 0 {{}}\n" for sign in "abcdefg")
        self.fails_with(InvalidReader, ("signs", None), lambda: parse_reader(many.format(*"-------")))
        six = "reader 1 0\nstate\n" + "".join(f"{sign} 0 {{}}\n" for sign in "abcdef")
        self.fails_with(InvalidReader, ("texts", None), lambda: parse_reader(six.format(*"abcde", "-")))
        two = "reader 2 0\nstate\n" + "".join(f"{sign} 0 {{}}\n" for sign in "abcdef") + "state\na 0 last\n"
        self.fails_with(InvalidReader, ("marks", None), lambda: parse_reader(two.format("go", "ga", "gi", "gu", "ge", "gy")))
        self.fails_with(InvalidText, (9,), lambda: parse_reader(many.format(*"------", "--")))

    def test_languages(self):
        seven = "language a 7\n" + "".join(f"state {state + 1}\n" for state in range(6)) + "member 6\n"
        self.fails_with(TooLarge, ("language states", 6), lambda: parse_language(seven))
        self.fails_with(InvalidText, (9,), lambda: parse_language(seven + "member 6\n"))

    def test_templates(self):
        reader, one = "reader 1 0\nend\n", "language a 1\nmember 0\n"
        seven = "language a 7\n" + "".join(f"state {state + 1}\n" for state in range(6)) + "member 6\n"
        empty, bad = "language a 1\nstate 0\n", "reader 1 0\nend\n" + "".join(f"{sign} 0 -\n" for sign in "abcdefg")
        slot, go = "slot x\n", "said go\n"
        for text, error, places in [
                (f"template 5\n{reader}" + "".join(f"slot {name}\n{one}" for name in "vwxyz"), InvalidTemplate, ("slots", None)),
                (f"template 3\n{reader}{slot}{one}{go}{slot}{empty}", InvalidTemplate, ("name", 2)),
                (f"template 3\n{reader}{slot}{one}{go}slot y\n{empty}", InvalidTemplate, ("empty", 2)),
                (f"template 3\n{reader}{slot}{one}said\nslot y\n{one}", InvalidTemplate, ("mark", 2)),
                (f"template 3\n{reader}{slot}{one}said\n{slot}{seven}", TooLarge, ("language states", 6)),
                (f"template 3\n{bad}{slot}{one}said\n{slot}{seven}", InvalidReader, ("signs", None)),
                (f"template 3\n{bad}{slot}{one}said\n{slot}{seven}x\n", InvalidText, (24,))]:
            self.fails_with(error, places, lambda: parse_template(text))


if __name__ == "__main__":
    unittest.main()
