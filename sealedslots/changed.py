"""Readers that were changed: the least pages that they read otherwise, and documents that are moved to them.

A lag is a tuple (first, second) of what the first of two readers told and the second did not tell yet, and the reverse;
one at least is empty. It is None where what they told cannot be the same any more.
"""

from sealedslots.courses import Course
from sealedslots.documents import Document
from sealedslots.errors import NoWay
from sealedslots.pages import ending_states
from sealedslots.readers import is_row
from sealedslots.rewriting import bounds_of, least_rewriting, moving_tasks
from sealedslots.search import FirstTwo, least_way, reached
from sealedslots.templates import Template
from sealedslots.values import is_below

NO_LAG = ((), ())


def _lag_behind(lag, first_told, second_told):
    """Return the lag behind a move of each reader, None if there is none."""
    first = lag[0] if first_told is None else lag[0] + (first_told,)
    second = lag[1] if second_told is None else lag[1] + (second_told,)
    many = min(len(first), len(second))
    return (first[many:], second[many:]) if first[:many] == second[:many] else None


def _node_behind(lag, first, second):
    """Return the node (first place, second place, lag) behind moves (place, told); None for a move that is missing."""
    if first is None or second is None:
        return (None if first is None else first[0], None if second is None else second[0], None)
    return (first[0], second[0], None if lag is None else _lag_behind(lag, first[1], second[1]))


def _move(reader, state, sign):
    """Return the move of the reader, None if there is none, or no state."""
    return None if state is None else reader.move(state, sign)


def find_difference(one, other):
    """Return the least page on which the readers do not agree, None if there is none."""
    pairs = Pairs(one, other)
    lags = FirstTwo()

    def leads(node):
        # With two lags at the same places, the readers differ on each page that goes on from there, behind one of the
        # two words at least. So a third lag is never needed.
        return [(sign, after) for sign, after in pairs.ways(node) if lags.has(after[:2], after[2])]

    return least_way(pairs.first(), leads, lambda node: pairs.differs(node))


def find_changed_filling(template, reader):
    """Return the least page that fills the template and is not read the same by this reader, None if there is none."""
    course = Course(template)
    if course.first() is None:
        return None
    lags = FirstTwo()

    def leads(node):
        place, state, lag = node
        ways = [(sign, _node_behind(lag, (after, told), _move(reader, state, sign)))
                for sign, after, told in course.ways(place)]
        return [(sign, after) for sign, after in ways if lags.has(after[:2], after[2])]

    def is_goal(node):
        place, state, lag = node
        return course.is_full(place) and (state not in reader.ends() or lag != NO_LAG)

    return least_way((course.first(), reader.start, NO_LAG), leads, is_goal)


def pair_lags(one, other):
    """Return the dict from the pairs of states to their lags, None if there is a difference."""
    if find_difference(one, other) is not None:
        return None
    pairs = Pairs(one, other)
    if not pairs.can_end(pairs.first()):
        return {}

    def leads(node):
        return [(sign, after) for sign, after in pairs.ways(node) if pairs.can_end(after)]

    return {node[:2]: node[2] for node in sorted(reached(pairs.first(), leads))}


def is_pair_lags(one, other, value):
    """Whether the value is pair lags of the readers."""
    if not isinstance(value, dict):
        return False
    if not all([_is_pair_lag(one, other, pair, lag) for pair, lag in value.items()]):
        return False
    pairs = Pairs(one, other)
    if pairs.can_end(pairs.first()) and not _has_node(value, pairs.first()):
        return False
    return all([_agrees(pairs, value, pair + (lag,)) for pair, lag in value.items()])


def _is_pair_lag(one, other, pair, lag):
    """Whether the key has the form (state of the one, state of the other), and the value that of a lag."""
    if not isinstance(pair, tuple) or not isinstance(lag, tuple) or len(pair) != 2 or len(lag) != 2:
        return False
    if not is_below(pair[0], len(one)) or not is_below(pair[1], len(other)):
        return False
    return is_row(lag[0]) and is_row(lag[1]) and () in lag


def _has_node(value, node):
    """Whether the pair lags have both states of the node, with its lag."""
    return node[2] is not None and value.get(node[:2]) == node[2]


def _agrees(pairs, value, node):
    """Whether the readers agree if a page ends at the node, and the pair lags have all that is behind it."""
    if pairs.differs(node):
        return False
    ways = [after for _, after in pairs.ways(node) if pairs.can_end(after)]
    return all([pairs.can_both_end(after) and _has_node(value, after) for after in ways])


class Pairs:
    """The pairs of states of two readers, with their lags, and which of them can end."""

    def __init__(self, one, other):
        self._readers = (one, other)
        self._ending = (ending_states(one), ending_states(other))
        self._signs = sorted(set(one.page_signs() + other.page_signs()))

    def first(self):
        """Return the pair of the starts."""
        one, other = self._readers
        return (one.start, other.start, NO_LAG)

    def differs(self, node):
        """Whether the readers do not agree on the pages that lead to the node."""
        first, second, lag = node
        one, other = self._readers
        return (first in one.ends()) != (second in other.ends()) or (first in one.ends() and lag != NO_LAG)

    def can_end(self, node):
        """Whether one of the states of the node can end."""
        return node[0] in self._ending[0] or node[1] in self._ending[1]

    def can_both_end(self, node):
        """Whether both states of the node can end."""
        return node[0] in self._ending[0] and node[1] in self._ending[1]

    def ways(self, node):
        """Return (sign, node) for each sign by which one of the states has a move at least."""
        first, second, lag = node
        one, other = self._readers
        found = []
        for sign in self._signs:
            after = _node_behind(lag, _move(one, first, sign), _move(other, second, sign))
            if after[:2] != (None, None):
                found.append((sign, after))
        return found


def moved(document, reader):
    """Return the least document of the template with the same parts and this reader, with the same texts."""
    template = Template(reader, document.template.parts())
    tasks = moving_tasks(template.parts(), document.texts(), document.words())
    found = least_rewriting(reader, tasks, bounds_of(template))
    if found is None:
        raise NoWay(None)
    return Document.of_words(template, found[2])
