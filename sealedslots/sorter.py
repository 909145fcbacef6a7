"""Sorters: which of some templates a page belongs to, while it is read sign by sign."""

from sealedslots.courses import Course
from sealedslots.errors import InvalidTemplates, InvalidWord, NotApart, ReadersDiffer
from sealedslots.filling import texts_between_marks
from sealedslots.pages import passed
from sealedslots.readers import Reader, is_sign
from sealedslots.several import least_common_page
from sealedslots.templates import Template
from sealedslots.values import has_length

LEAST_TEMPLATES = 2
MOST_TEMPLATES = 6


def _check_templates(value):
    """Raise the error for a value that is not a few templates with equal readers."""
    if not has_length(value, LEAST_TEMPLATES, MOST_TEMPLATES):
        raise InvalidTemplates("templates", None)
    for index, template in enumerate(value):
        if not isinstance(template, Template):
            raise InvalidTemplates("template", index)
    for index, template in enumerate(value):
        if template.reader != value[0].reader:
            raise ReadersDiffer(index)


def _check_apart(courses):
    """Raise NotApart for the first two of the templates that some page fills both."""
    for one in range(len(courses)):
        for other in range(one + 1, len(courses)):
            page = least_common_page(courses[one], courses[other])
            if page is not None:
                raise NotApart(one, other, page)


class Sorter:
    """A reader of pages that tells which of some templates, that are apart, go on with what was read."""

    def __init__(self, templates):
        _check_templates(templates)
        courses = [Course(template) for template in templates]
        _check_apart(courses)
        self._templates = list(templates)
        self._courses = courses
        self._page = ""
        self._strayed_at = None
        self._take_places([course.first() for course in courses])

    @property
    def page(self):
        """All that was read."""
        return self._page

    @property
    def candidates(self):
        """The sorted tuple of the indices of the templates that go on with what was read."""
        return self._candidates

    @property
    def sure(self):
        """The index of the only candidate, None if there is another number of them."""
        return self._candidates[0] if len(self._candidates) == 1 else None

    @property
    def strayed_at(self):
        """The number of signs read when the last candidate was lost, None if there are candidates."""
        return self._strayed_at

    def feed(self, sign):
        """Read the sign; return the candidates."""
        if not is_sign(sign):
            raise InvalidWord(sign)
        self._page += sign
        self._take_places([course.place_behind(place, sign) for course, place in zip(self._courses, self._places)])
        return self._candidates

    def texts_so_far(self):
        """Return the dict from the slots of the only candidate to what was told in them, None if it is not sure."""
        if len(self._candidates) != 1:
            return None
        template = self._templates[self._candidates[0]]
        row, _ = passed(template.reader, template.reader.start, self._page)
        return texts_between_marks(template, row)

    def winner(self):
        """Return the index of the template that what was read fills, None if there is none."""
        for index in self._candidates:
            if self._courses[index].is_full(self._places[index]):
                return index
        return None

    def clone(self):
        """Return an independent copy."""
        # A sorter for two templates that no page fills is made at once; what was found out about these is shared.
        nothing = Template(Reader([{}]), [("piece", ())])
        copy = Sorter([nothing, nothing])
        copy._templates = self._templates
        copy._courses = self._courses
        copy._page = self._page
        copy._strayed_at = self._strayed_at
        copy._places = self._places
        copy._candidates = self._candidates
        return copy

    def _take_places(self, places):
        """Take the places of the templates behind what was read, None for one that does not go on with it."""
        self._places = places
        self._candidates = tuple([index for index, place in enumerate(places) if place is not None])
        if not self._candidates and self._strayed_at is None:
            self._strayed_at = len(self._page)

    def __len__(self):
        return len(self._templates)
