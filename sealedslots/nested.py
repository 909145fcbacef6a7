"""Readers inside doors: what is told outside is the page of an inner reader."""

from sealedslots.ahead import SlotSets, fixed_ahead, sets_of_parts
from sealedslots.courses import Course
from sealedslots.errors import NotSealed, ReadersDiffer, SignsDiffer, TooLarge
from sealedslots.languages import live_move
from sealedslots.pages import passed, reading
from sealedslots.places import WHOLE
from sealedslots.readers import Reader
from sealedslots.search import distances_to, least_way, reached
from sealedslots.sets import LeastSets, Sets, ahead_of, bits_of, states_of
from sealedslots.values import check_state
from sealedslots.vectors import check_vector
from sealedslots.ways import lasts_along, least_along, least_told


def _check_signs_told(door, inner):
    """Raise SignsDiffer if some page sign of the inner reader is no text sign of the reader of the door."""
    one, other = door.reader.text_signs(), inner.page_signs()
    if not all([sign in one for sign in other]):
        raise SignsDiffer(one, other)


def _triple_moves(door, inner, triple):
    """Return (sign, next triple, told outside, told) for each move from the triple."""
    state, at, inside = triple
    found = []
    for sign, after, told in door.reader.moves(state):
        if told is None:
            found.append((sign, (after, at, inside), None, None))
        else:
            # A mark is no sign of the language.
            language_state = door.language.move(at, told)
            move = inner.move(inside, told)
            if language_state is not None and move is not None:
                found.append((sign, (after, language_state, move[0]), told, move[1]))
    return found


def _useful_triples(door, inner):
    """Return the list of the useful triples, in the order in which they are first reached."""
    def leads(triple):
        return [(sign, after) for sign, after, _, _ in _triple_moves(door, inner, triple)]

    first = (door.state, 0, inner.start)
    graph = {triple: leads(triple) for triple in reached(first, leads)}
    ending = distances_to([triple for triple in graph if _is_end(door, inner, triple)], graph)
    return [triple for triple in graph if triple in ending or triple == first]


def _is_end(door, inner, triple):
    """Whether a page can end at the triple."""
    state, at, inside = triple
    return state in door.behind and door.language.is_member(at) and inside in inner.ends()


def _numbered(moves, numbers):
    """Return the moves to triples that have numbers, with the numbers in their place."""
    return [(sign, numbers[after], outside, told) for sign, after, outside, told in moves if after in numbers]


class Nesting:
    """A door, and an inner reader that reads what is told outside: what the reader of the door tells."""

    def __init__(self, door, inner):
        _check_signs_told(door, inner)
        triples = _useful_triples(door, inner)
        if len(triples) > Reader.MAX_STATES:
            raise TooLarge("states", Reader.MAX_STATES)
        numbers = {triple: number for number, triple in enumerate(triples)}
        moves = [_numbered(_triple_moves(door, inner, triple), numbers) for triple in triples]
        states = [{sign: (after, told) for sign, after, _, told in ways} for ways in moves]
        ends = [numbers[triple] for triple in triples if _is_end(door, inner, triple)]
        self._door = door
        self._inner = inner
        self._triples = triples
        self._reader = Reader(states, ends)
        self._ways_inside = [[(sign, after, None if outside is None else (outside, told))
                              for sign, after, outside, told in ways] for ways in moves]

    @property
    def door(self):
        """The outer door."""
        return self._door

    @property
    def inner(self):
        """The inner reader."""
        return self._inner

    @property
    def reader(self):
        """The nested reader."""
        return self._reader

    def triple(self, state):
        """Return the triple of the state of the nested reader."""
        check_state(state, len(self._triples))
        return self._triples[state]

    def told_outside(self, page):
        """Return the text that the page of the nested reader tells outside."""
        reading(self._reader, page)
        told_signs, _ = passed(self._door.reader, self._door.state, page)
        return "".join(told_signs)

    def ways_inside(self, state):
        """Return (sign, next state, label) for each move of the nested reader: None, or (told outside, told)."""
        return list(self._ways_inside[state])

    def __len__(self):
        return len(self._triples)

    def __eq__(self, other):
        if not isinstance(other, Nesting):
            return False
        return self._door == other._door and self._inner == other._inner


def sets_inside(nesting, template, vector=None):
    """Return the list of the sets inside the nesting ahead of all parts, and of the set of the ends."""
    _check_inner(nesting, template)
    entries = (WHOLE,) * len(template.slots()) if vector is None else vector
    check_vector(template, entries)
    return _sets_with_entries(nesting, template, entries)


def _check_inner(nesting, template):
    """Raise ReadersDiffer if the template is not one of the inner reader."""
    if template.reader != nesting.inner:
        raise ReadersDiffer(0)


def _sets_with_entries(nesting, template, entries):
    """Return what sets_inside returns."""
    reader = nesting.reader
    sets = Sets(reader)
    slot_sets = SlotSets(reader)
    chosen = {name: entry for name, entry in zip(template.slots(), entries)}

    def ahead_of_part(part, behind):
        if part[0] == "slot":
            return slot_sets.ahead(part[2], chosen[part[1]], behind)
        if part[0] == "said":
            return fixed_ahead(reader, sets, part, behind)
        return ahead_of(_piece_lasts(nesting, part), behind)

    found = sets_of_parts(template.parts(), bits_of(reader.ends()), ahead_of_part)
    return [states_of(bits) for bits in found]


def _piece_lasts(nesting, piece):
    """Return, for each state, the set of the states behind the words from it that tell the piece outside."""
    many = len(nesting)
    return [bits_of(lasts_along(lambda at: nesting.ways_inside(at), state, piece[1])) for state in range(many)]


def is_sealed_inside(nesting, template, vector=None):
    """Whether the set inside the nesting ahead of the first part, under the vector, contains the start."""
    return nesting.reader.start in sets_inside(nesting, template, vector)[0]


def filling_inside(nesting, template, texts):
    """Return the page of the nested reader that is written part by part, each slot with its whole text at once."""
    _check_inner(nesting, template)
    template.check_texts(texts)
    sets = sets_inside(nesting, template)
    reader = nesting.reader
    if reader.start not in sets[0]:
        raise NotSealed(None)
    state = reader.start
    words = []
    for index, part in enumerate(template.parts()):
        if part[0] == "piece":
            word = least_along(lambda at: nesting.ways_inside(at), state, part[1], sets[index + 1])
        else:
            row = texts[part[1]] if part[0] == "slot" else part[1]
            word = least_told(reader, state, row, sets[index + 1])
        _, state = passed(reader, state, word)
        words.append(word)
    return "".join(words)


def find_uncarried(door, template):
    """Return the least page that fills the template and is not written through the door, None if it is carried."""
    _check_signs_told(door, template.reader)
    course = Course(template)
    if course.first() is None:
        return None
    sets = Sets(door.reader)
    steps = {sign: sets.step_unions(sign) for sign in template.reader.page_signs()}
    wanted = bits_of(door.behind)
    least = LeastSets()

    def leads(node):
        found = []
        for sign, place in course.leads(node[0]):
            at, bits = _outer_behind(door, steps, node, sign)
            # What fails with more states fails with fewer, too; so a lesser page fails if a set inside was met.
            if least.is_new((place, at), bits):
                found.append((sign, (place, at, bits)))
        return found

    def is_goal(node):
        place, at, bits = node
        return course.is_full(place) and (at is None or not door.language.is_member(at) or not bits & wanted)

    first = (course.first(), 0, sets.silent(1 << door.state))
    return least_way(first, leads, is_goal)


def _outer_behind(door, steps, node, sign):
    """Return (language state, set of states) behind the sign of a page, (None, 0) if no text goes on with it."""
    _, at, bits = node
    after = None if at is None else live_move(door.language, at, sign)
    behind = 0 if after is None else steps[sign][bits]
    return (after, behind) if behind else (None, 0)


def is_carried(door, template):
    """Whether every page that fills the template belongs to the language of the door and is writable through it."""
    return find_uncarried(door, template) is None
