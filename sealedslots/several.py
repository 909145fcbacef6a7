"""How far templates go on with words, and whether some page fills two of them."""

from sealedslots.courses import Course
from sealedslots.errors import ReadersDiffer
from sealedslots.readers import check_word
from sealedslots.search import graph_from, least_way, longest_way
from sealedslots.stands import end_stand, first_open_stands, is_stand, stands_by_move
from sealedslots.values import is_below


def first_stands(template):
    """Return the sorted list of the first stands."""
    return sorted(first_open_stands(template.parts()))


def stands_behind(template, word):
    """Return the sorted list of the stands behind the word, which is empty if the word does not pass."""
    check_word(word)
    parts = template.parts()
    state = template.reader.start
    stands = first_open_stands(parts)
    for sign in word:
        move = template.reader.move(state, sign)
        if move is None:
            return []
        state, told = move
        stands = list({after: True for stand in stands for after in stands_by_move(parts, stand, sign, told)})
    return sorted(stands)


def goes_on(template, word):
    """Whether some page that begins with the word fills the template with some texts."""
    check_word(word)
    return len(_places_along(Course(template), word)) > len(word)


def _places_along(course, word):
    """Return the list of the places behind the beginnings of the word, the empty one first, while there are any."""
    places = []
    place = course.first()
    for sign in word:
        if place is None:
            return places
        places.append(place)
        place = course.place_behind(place, sign)
    return places if place is None else places + [place]


def least_continuation(template, word):
    """Return the least word behind the word with which they fill the template, None if it does not go on."""
    check_word(word)
    course = Course(template)
    places = _places_along(course, word)
    return course.least_rest(places[-1]) if len(places) > len(word) else None


def strays_at(template, word):
    """Return the least number of signs of the word with which the template does not go on, None if there is none."""
    check_word(word)
    places = _places_along(Course(template), word)
    return None if len(places) > len(word) else len(places)


def common_page(one, other):
    """Return the least page that fills both templates, None if they are apart."""
    _check_readers(one, other)
    return least_common_page(Course(one), Course(other))


def _check_readers(one, other):
    """Raise ReadersDiffer if the readers of the templates are not equal."""
    if one.reader != other.reader:
        raise ReadersDiffer(1)


def least_common_page(one, other):
    """Return the least page that fills both templates, whose courses these are, None if there is none."""
    if one.first() is None or other.first() is None:
        return None

    def is_goal(places):
        return one.is_full(places[0]) and other.is_full(places[1])

    return least_way((one.first(), other.first()), lambda places: _common_leads(one, other, places), is_goal)


def _common_leads(one, other, places):
    """Return (sign, places behind) for each sign with which both templates go on."""
    behind = {sign: place for sign, place in other.leads(places[1])}
    return [(sign, (place, behind[sign])) for sign, place in one.leads(places[0]) if sign in behind]


def apartness(one, other):
    """Return the sorted list of all tuples (state, stand, stand) that follow, None if the templates are not apart."""
    _check_readers(one, other)
    nodes = graph_from(_first_nodes(one, other), lambda node: _stand_leads(one, other, node))
    if any([_is_common(one, other, node) for node in nodes]):
        return None
    return sorted(nodes)


def _first_nodes(one, other):
    """Return the list of the tuples (start, first stand of the one, first stand of the other)."""
    firsts = first_open_stands(other.parts())
    return [(one.reader.start, stand, first) for stand in first_open_stands(one.parts()) for first in firsts]


def _stand_leads(one, other, node):
    """Return (sign, node) for each move from the state and all stands behind."""
    state, first, second = node
    found = []
    for sign, after, told in one.reader.moves(state):
        behind = stands_by_move(other.parts(), second, sign, told)
        for stand in stands_by_move(one.parts(), first, sign, told):
            found.extend([(sign, (after, stand, last)) for last in behind])
    return found


def _is_common(one, other, node):
    """Whether the state is an end, and both stands are end stands."""
    state, first, second = node
    return state in one.reader.ends() and first == end_stand(one.parts()) and second == end_stand(other.parts())


def is_apartness(one, other, value):
    """Whether the value is an apartness of the templates."""
    if one.reader != other.reader or not isinstance(value, list):
        return False
    if not all([_is_node(one, other, node) for node in value]):
        return False
    nodes = {node: True for node in value}
    if not all([node in nodes for node in _first_nodes(one, other)]):
        return False
    for node in nodes:
        if _is_common(one, other, node):
            return False
        if not all([after in nodes for _, after in _stand_leads(one, other, node)]):
            return False
    return True


def _is_node(one, other, value):
    """Whether the value is a tuple of a state, a stand of the one and a stand of the other."""
    if not isinstance(value, tuple) or len(value) != 3 or not is_below(value[0], len(one.reader)):
        return False
    return is_stand(one.parts(), value[1]) and is_stand(other.parts(), value[2])


def decided_after(one, other):
    """Return the greatest length of a word with which both templates go on, -1 if there is no such word at all.

    It is None if there is no greatest length.
    """
    _check_readers(one, other)
    courses = (Course(one), Course(other))
    if courses[0].first() is None or courses[1].first() is None:
        return -1
    first = (courses[0].first(), courses[1].first())
    return longest_way(first, lambda places: _common_leads(courses[0], courses[1], places))
