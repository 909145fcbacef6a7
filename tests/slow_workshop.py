"""A workshop that keeps all that it ever was: each undo goes back to a whole copy. Commands are told apart by patterns."""

import re

from sealedslots.documents import Document
from sealedslots.errors import (InvalidCommand, InvalidText, InvalidTexts, NameTaken, NothingToUndo, RunFailed, UnknownName,
                                Unreadable)
from sealedslots.languages import Language, least_text
from sealedslots.pages import reading
from sealedslots.readers import Reader
from sealedslots.sealing import is_sealed
from sealedslots.templates import Template
from sealedslots.texts import language_text, parse_language, parse_reader, parse_template, reader_text, template_text
from sealedslots.vectors import sealing_vectors

NAME, TEXT = "[a-z]{1,8}", "(?:[a-z]+|-)"
FORMS = [f"define {NAME}\n.*", f"write {NAME} {NAME}(?: {NAME}={TEXT})*", f"change {NAME} {NAME}={TEXT}", f"drop {NAME}", "undo", "names",
         f"(?:show|texts|sealed|vectors|least) {NAME}", f"read {NAME} {TEXT}"]
KINDS = {Reader: "reader", Language: "language", Template: "template", Document: "page"}
PARSERS = {"reader": parse_reader, "language": parse_language, "template": parse_template}
TEXTS = {Reader: reader_text, Language: language_text, Template: template_text}
NEEDED = {"change": [Document], "texts": [Document], "sealed": [Template], "vectors": [Template], "read": [Reader], "least": [Language],
          "show": list(KINDS), "drop": list(KINDS)}


def is_command(value):
    return isinstance(value, str) and any(re.fullmatch(form, value, re.DOTALL if form[0] == "d" and form[1] == "e" else 0) for form in FORMS)


def empty(word):
    return "" if word == "-" else word


class SlowWorkshop:
    def __init__(self):
        self.things, self.before, self.log = {}, [], []

    def known(self, name, kinds):
        if type(self.things.get(name)) not in kinds:
            raise UnknownName(name)
        return self.things[name]

    def put(self, name, thing):
        self.before.append(dict(self.things))
        self.things[name] = thing
        if thing is None:
            del self.things[name]

    def execute(self, command):
        if not is_command(command):
            raise InvalidCommand(command)
        line, _, text = command.partition("\n")
        word, *rest = line.split()
        result = self.result(word, rest, text)
        self.log.append((command, result))
        return result

    def result(self, word, rest, text):
        if word == "undo":
            if not self.before:
                raise NothingToUndo()
            self.things = dict(self.before.pop())
            return str(len(self.before))
        if word == "names":
            return " ".join(f"{name}:{KINDS[type(self.things[name])]}" for name in sorted(self.things)) or "."
        if word == "write":
            template = self.known(rest[1], [Template])
        elif word != "define":
            thing = self.known(rest[0], NEEDED[word])
        if word in ("define", "write") and rest[0] in self.things:
            raise NameTaken(rest[0])
        if word == "define":
            first = re.match("[^ \n]*", text).group()
            if first not in PARSERS:
                raise InvalidText(1)
            self.put(rest[0], PARSERS[first](text))
            return "ok"
        if word == "drop":
            self.put(rest[0], None)
            return "ok"
        if word == "write":
            pairs = [assigned.split("=") for assigned in rest[2:]]
            if [slot for slot, _ in pairs] != template.slots():
                raise InvalidTexts("names", None)
            document = Document(template, {slot: empty(value) for slot, value in pairs})
            self.put(rest[0], document)
            return document.page or "-"
        if word == "change":
            document = Document.of_words(thing.template, thing.words())
            slot, value = rest[1].split("=")
            document.change(slot, empty(value))
            self.put(rest[0], document)
            return document.page or "-"
        return self.answer(word, rest, thing)

    def answer(self, word, rest, thing):
        if word == "show":
            return (thing.page or "-") if isinstance(thing, Document) else TEXTS[type(thing)](thing)
        if word == "texts":
            return " ".join(f"{slot}={text or '-'}" for slot, text in thing.texts().items()) or "."
        if word == "sealed":
            return {True: "yes", False: "no"}[is_sealed(thing)]
        if word == "vectors":
            return " ".join("".join(map(str, vector)) or "-" for vector in sealing_vectors(thing)) or "."
        if word == "least":
            return {None: ".", "": "-"}.get(least_text(thing), least_text(thing))
        try:
            return " ".join(reading(thing, empty(rest[1]))) or "."
        except Unreadable as error:
            return f"unreadable {error.place}"

    def run(self, *commands):
        kept, results = (dict(self.things), list(self.before), list(self.log)), []
        for command in commands:
            try:
                results.append(self.execute(command))
            except Exception as error:
                self.things, self.before, self.log = kept
                raise RunFailed(len(results), results) from error
        return results
