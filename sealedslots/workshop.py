"""Workshops: readers, languages, templates and documents by names, and commands for them."""

from sealedslots.commands import assignment, command_words, listed, text_of_word, word_of_text
from sealedslots.documents import Document
from sealedslots.errors import (InvalidText, InvalidTexts, NameTaken, NothingToUndo, NotMember, NotSealed, NoWay,
                                RunFailed, SlotsError, TooLarge, UnknownName, UnknownSlot, Unreadable)
from sealedslots.languages import Language, least_text
from sealedslots.pages import reading
from sealedslots.readers import Reader, is_name
from sealedslots.sealing import is_sealed
from sealedslots.templates import Template
from sealedslots.texts import language_text, parse_language, parse_reader, parse_template, reader_text, template_text
from sealedslots.vectors import sealing_vectors


def _kind_of(thing):
    """Return the word for the kind of the thing."""
    if isinstance(thing, Reader):
        return "reader"
    if isinstance(thing, Language):
        return "language"
    if isinstance(thing, Template):
        return "template"
    return "page"


def _parsed(text):
    """Return the thing of which this is the text, as its first word says."""
    line, _, _ = text.partition("\n")
    word, _, _ = line.partition(" ")
    if word == "reader":
        return parse_reader(text)
    if word == "language":
        return parse_language(text)
    if word == "template":
        return parse_template(text)
    raise InvalidText(1)


def _shown(thing):
    """Return the text of the thing, or the page of a document."""
    if isinstance(thing, Reader):
        return reader_text(thing)
    if isinstance(thing, Language):
        return language_text(thing)
    if isinstance(thing, Template):
        return template_text(thing)
    return word_of_text(thing.page)


def _read(reader, page):
    """Return the reading of the page, or where it is unreadable."""
    try:
        return listed(reading(reader, page))
    except Unreadable as error:
        return f"unreadable {error.place}"


def _vector_words(template):
    """Return the list of the words for the sealing vectors."""
    return [word_of_text("".join([str(entry) for entry in vector])) for vector in sealing_vectors(template)]


def _least_word(language):
    """Return the word for the least text, of an empty list if there is none."""
    text = least_text(language)
    return listed([] if text is None else [word_of_text(text)])


class Workshop:
    """Things by their names, which commands define, write, change, drop and ask for."""

    def __init__(self):
        # Things are never changed in place, so copies of this dict and what can be undone share them.
        self._things = {}
        self._history = []
        self._log = []

    def execute(self, command):
        """Execute the command; return its result."""
        words, text = command_words(command)
        result = self._result(words, text)
        self._log.append((command, result))
        return result

    def run(self, *commands):
        """Execute the commands in sequence, or none of them if one fails; return the list of the results."""
        before = (self._things, self._history, self._log)
        self._things, self._history, self._log = (dict(self._things), list(self._history), list(self._log))
        results = []
        for command in commands:
            try:
                results.append(self.execute(command))
            except (SlotsError, UnknownName, UnknownSlot, NameTaken, NotSealed, NotMember, NoWay, NothingToUndo,
                    TooLarge) as error:
                self._things, self._history, self._log = before
                raise RunFailed(len(results), results) from error
        return results

    def rehearse(self, *commands):
        """Return the list of the results that `run` would return; nothing changes."""
        copy = self.clone()
        return copy.run(*commands)

    def log(self):
        """Return the list of (command, result) of all commands that were executed without an error."""
        return list(self._log)

    @classmethod
    def replay(cls, log):
        """Return a new workshop that has executed the commands of the log."""
        workshop = cls()
        for command, _ in log:
            workshop.execute(command)
        return workshop

    def names(self):
        """Return the sorted list of the names."""
        return sorted(self._things)

    def thing(self, name):
        """Return the thing for which the name stands; a copy if it is a document."""
        if name not in self:
            raise UnknownName(name)
        thing = self._things[name]
        return thing.clone() if isinstance(thing, Document) else thing

    def clone(self):
        """Return an independent copy."""
        copy = Workshop()
        copy._things = dict(self._things)
        copy._history = list(self._history)
        copy._log = list(self._log)
        return copy

    def __len__(self):
        return len(self._things)

    def __contains__(self, value):
        return is_name(value) and value in self._things

    def __eq__(self, other):
        if not isinstance(other, Workshop):
            return False
        return self._things == other._things and len(self._history) == len(other._history)

    def _result(self, words, text):
        """Do what the command says; return its result."""
        if words[0] == "define":
            return self._define(words[1], text)
        if words[0] == "write":
            return self._write(words[1], words[2], words[3:])
        if words[0] == "change":
            return self._change(words[1], words[2])
        if words[0] == "drop":
            return self._drop(words[1])
        if words[0] == "undo":
            return self._undo()
        return self._answer(words)

    def _answer(self, words):
        """Return the result of a query."""
        if words[0] == "names":
            return listed([name + ":" + _kind_of(self._things[name]) for name in self.names()])
        if words[0] == "show":
            return _shown(self._known(words[1], ("reader", "language", "template", "page")))
        if words[0] == "texts":
            texts = self._known(words[1], ("page",)).texts()
            return listed([slot + "=" + word_of_text(text) for slot, text in texts.items()])
        if words[0] == "sealed":
            return "yes" if is_sealed(self._known(words[1], ("template",))) else "no"
        if words[0] == "vectors":
            return listed(_vector_words(self._known(words[1], ("template",))))
        if words[0] == "read":
            return _read(self._known(words[1], ("reader",)), text_of_word(words[2]))
        return _least_word(self._known(words[1], ("language",)))

    def _known(self, name, kinds):
        """Return the thing for which the name stands, which must be of one of the kinds."""
        if name not in self._things or _kind_of(self._things[name]) not in kinds:
            raise UnknownName(name)
        return self._things[name]

    def _check_free(self, name):
        """Raise NameTaken if the name stands for something."""
        if name in self._things:
            raise NameTaken(name)

    def _define(self, name, text):
        """Let the name stand for the thing of the text."""
        self._check_free(name)
        self._put(name, _parsed(text))
        return "ok"

    def _write(self, name, template_name, assignments):
        """Let the name stand for the document of the plain filling; return its page."""
        template = self._known(template_name, ("template",))
        self._check_free(name)
        pairs = [assignment(word) for word in assignments]
        if [slot for slot, _ in pairs] != template.slots():
            raise InvalidTexts("names", None)
        document = Document(template, {slot: text for slot, text in pairs})
        self._put(name, document)
        return word_of_text(document.page)

    def _change(self, name, word):
        """Change the document; return its new page."""
        document = self._known(name, ("page",)).clone()
        slot, text = assignment(word)
        document.change(slot, text)
        self._put(name, document)
        return word_of_text(document.page)

    def _drop(self, name):
        """Let the name stand for nothing."""
        self._known(name, ("reader", "language", "template", "page"))
        self._put(name, None)
        return "ok"

    def _put(self, name, thing):
        """Let the name stand for the thing, or for nothing; what it stood for before can be restored."""
        self._history.append((name, self._things.get(name)))
        self._restore(name, thing)

    def _restore(self, name, thing):
        """Let the name stand for the thing, for nothing if it is None."""
        if thing is None:
            del self._things[name]
        else:
            self._things[name] = thing

    def _undo(self):
        """Take back the last command that changed things; return how many remain."""
        if not self._history:
            raise NothingToUndo()
        name, former = self._history.pop()
        self._restore(name, former)
        return str(len(self._history))
