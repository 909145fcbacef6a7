"""Documents: pages that fill templates, with the words of the parts, and changes of their texts."""

from sealedslots.errors import NotFilled, NotMember, NoWay
from sealedslots.filling import texts_in
from sealedslots.fits import divided
from sealedslots.pages import passed
from sealedslots.readers import Reader, check_word
from sealedslots.rewriting import bounds_of, changing_tasks, least_rewriting
from sealedslots.sealing import sets_ahead
from sealedslots.templates import Template
from sealedslots.written import plain_words


class Document:
    """A template, and a word for each part of it; together they fill it."""

    def __init__(self, template, texts):
        template.check_texts(texts)
        sets = sets_ahead(template)
        self._template = template
        self._words = plain_words(template, sets, texts)
        # The template is sealed: the sets ahead bind the words of all changes.
        self._bounds = sets

    @classmethod
    def of_page(cls, template, page):
        """Return the document into whose words the page is divided."""
        check_word(page)
        texts = texts_in(template, page)
        if texts is None:
            raise NotFilled(page)
        return cls.of_words(template, divided(template, texts, page))

    @classmethod
    def of_words(cls, template, words):
        """Return the document of words that fill the template."""
        # It is made at once for a template with an empty page, because the plain filling may be another one, or none.
        document = cls(Template(Reader([{}], [0]), [("piece", ())]), {})
        document._template = template
        document._words = list(words)
        document._bounds = None
        return document

    @property
    def template(self):
        """The template."""
        return self._template

    @property
    def page(self):
        """The words together."""
        return "".join(self._words)

    def words(self):
        """Return the list of the words of the parts."""
        return list(self._words)

    def states(self):
        """Return the list of the states ahead of all parts, and behind the last one."""
        states = [self._template.reader.start]
        for word in self._words:
            _, last = passed(self._template.reader, states[-1], word)
            states.append(last)
        return states

    def texts(self):
        """Return the dict from the slots, in sequence, to their texts."""
        texts = {}
        for part, state, word in zip(self._template.parts(), self.states(), self._words):
            if part[0] == "slot":
                told_names, _ = passed(self._template.reader, state, word)
                texts[part[1]] = "".join(told_names)
        return texts

    def stands(self):
        """Whether the word of each part leads into the set ahead of the next part, and the last one to an end."""
        sets = sets_ahead(self._template)
        states = self.states()
        return all([states[index] in sets[index] for index in range(1, len(states))])

    def tasks(self, slot, text):
        """Return the tasks of rewriting for the change of the slot to the text."""
        if text not in self._template.language_of(slot):
            raise NotMember(text)
        texts = self.texts()
        texts[slot] = text
        parts = self._template.parts()
        index = [at for at, part in enumerate(parts) if part[0] == "slot" and part[1] == slot][0]
        return changing_tasks(parts, texts, self._words, index)

    def bounds(self):
        """Return the states in which words of new documents may begin and end, as `rewriting` has them."""
        # They depend on the template alone, and take long to find; so they are kept for the next change.
        if self._bounds is None:
            self._bounds = bounds_of(self._template)
        return self._bounds

    def change(self, slot, text):
        """Change the slot to the text; return the sorted tuple of the indices of the other parts that are rewritten."""
        tasks = self.tasks(slot, text)
        found = least_rewriting(self._template.reader, tasks, self.bounds())
        if found is None:
            raise NoWay(slot)
        _, _, words = found
        rewritten = [index for index, task in enumerate(tasks) if task[2] is not None and words[index] != task[2]]
        self._words = words
        return tuple(rewritten)

    def clone(self):
        """Return an independent copy."""
        copy = Document.of_words(self._template, self._words)
        copy._bounds = self._bounds
        return copy

    def __len__(self):
        return len("".join(self._words))

    def __eq__(self, other):
        if not isinstance(other, Document):
            return False
        return self._template == other._template and self._words == other._words
