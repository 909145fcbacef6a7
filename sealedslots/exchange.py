"""Which rows of parts may replace each other in every context, and what shows it.

A tail is a tuple (set, whether it is free), a pair a tuple (set of the one, set of the other, whether it is free); sets
are integers here, as in `sets`, where they are not returned.
"""

from sealedslots.errors import TooLarge
from sealedslots.kinds import PartSets, check_kinds, check_row_of_parts, is_context, single_parts
from sealedslots.parts import told_marks
from sealedslots.search import explored, reached, retraced
from sealedslots.sets import bits_of, states_of
from sealedslots.values import check_states, is_state_set

MOST_STATES = 6
LETTERS = "abcdefghijklmnopqrstuvwxyz"


def set_ahead(reader, kinds, parts, behind):
    """Return the set ahead of the row of parts with the set behind it."""
    check_kinds(kinds)
    check_row_of_parts(kinds, parts)
    check_states(behind, len(reader))
    return states_of(PartSets(reader, kinds).ahead_of_row(parts, bits_of(behind)))


def exchange(reader, kinds, one, other):
    """Return the tails and the pairs that follow, None if the one does not replace the other."""
    _check_rows(kinds, one, other)
    _check_size(reader)
    exchanges = Exchanges(reader, kinds, one, other)
    nodes = reached(exchanges.first(), lambda node: exchanges.leads(node))
    if any([exchanges.is_parting(node) for node in nodes]):
        return None
    tails = [(states_of(node[0]), node[1]) for node in nodes if len(node) == 2]
    pairs = [(states_of(node[0]), states_of(node[1]), node[2]) for node in nodes if len(node) == 3]
    return (sorted(tails), sorted(pairs))


def replaces(reader, kinds, one, other):
    """Whether the one is sealed in every context in which the other is."""
    return parting_context(reader, kinds, one, other) is None


def parting_context(reader, kinds, one, other):
    """Return a context with the fewest parts in which the other is sealed and the one is not, None if there is none."""
    _check_rows(kinds, one, other)
    _check_size(reader)
    exchanges = Exchanges(reader, kinds, one, other)

    def is_goal(node):
        return exchanges.is_parting(node)

    before, found = explored(exchanges.first(), lambda node: exchanges.leads(node), is_goal)
    if found is None:
        return None
    # Each way to a pair has one step at which the rows are put ahead of the tail, so the shortest has the fewest parts.
    numbers = retraced(before, found)
    parts = _renamed([exchanges.part(number) for number in reversed(numbers)])
    at = parts.index(None)
    return (tuple(parts[:at]), tuple(parts[at + 1:]))


def _renamed(parts):
    """Return the parts with different names of the slots; None stands for the place of the rows."""
    found = []
    many = 0
    for part in parts:
        if part is not None and part[0] == "slot":
            part = ("slot", _name(many), part[2])
            many += 1
        found.append(part)
    return found


def _name(number):
    """Return a name that no other number has."""
    name = ""
    while number > 0 or not name:
        number, letter = divmod(number, len(LETTERS))
        name += LETTERS[letter]
    return name


def is_exchange(reader, kinds, one, other, value):
    """Whether the value is an exchange."""
    _check_rows(kinds, one, other)
    nodes = _nodes_of(reader, value)
    if nodes is None:
        return False
    exchanges = Exchanges(reader, kinds, one, other)
    return exchanges.first() in nodes and _are_closed(exchanges, nodes)


def is_parting(reader, kinds, one, other, value):
    """Whether the value is a context in which the other is sealed and the one is not."""
    _check_rows(kinds, one, other)
    if not is_context(kinds, value):
        return False
    head, tail = value
    sets = PartSets(reader, kinds)
    behind = sets.ahead_of_row(tail, bits_of(reader.ends()))
    sealed = [sets.ahead_of_row(head, sets.ahead_of_row(row, behind)) >> reader.start & 1 for row in (one, other)]
    return sealed == [0, 1]


def _check_rows(kinds, one, other):
    """Raise the error for wrong kinds or rows of parts."""
    check_kinds(kinds)
    check_row_of_parts(kinds, one)
    check_row_of_parts(kinds, other)


def _check_size(reader):
    """Raise TooLarge if the reader has too many states for all tails and pairs to be followed."""
    if len(reader) > MOST_STATES:
        raise TooLarge("states", MOST_STATES)


def _nodes_of(reader, value):
    """Return the dict from the tails and the pairs of the value to True, None if it does not have the form."""
    if not isinstance(value, tuple) or len(value) != 2:
        return None
    for many, listed in enumerate(value):
        if not isinstance(listed, list) or not all([_is_node(reader, many + 1, node) for node in listed]):
            return None
    nodes = {}
    for listed in value:
        for node in listed:
            nodes[tuple([bits_of(states) for states in node[:-1]]) + node[-1:]] = True
    return nodes


def _is_node(reader, many, value):
    """Whether the value is a tuple of so many sets of states and a bool."""
    if not isinstance(value, tuple) or len(value) != many + 1 or not isinstance(value[-1], bool):
        return False
    return all([is_state_set(states, len(reader)) for states in value[:-1]])


def _are_closed(exchanges, nodes):
    """Whether all that follows from the nodes is among them, and none of them parts the rows."""
    for node in nodes:
        if exchanges.is_parting(node):
            return False
        for _, after in exchanges.leads(node):
            if after not in nodes:
                return False
    return True


class Exchanges:
    """The tails and the pairs of two rows of parts, and what follows from them."""

    def __init__(self, reader, kinds, one, other):
        self._reader = reader
        self._rows = (one, other)
        self._sets = PartSets(reader, kinds)
        self._parts = single_parts(reader, kinds)
        self._found = [{} for _ in self._parts]

    def first(self):
        """Return the tail without parts."""
        return (bits_of(self._reader.ends()), True)

    def part(self, number):
        """Return the single part with the number, None for the number of the rows."""
        return None if number == len(self._parts) else self._parts[number]

    def leads(self, node):
        """Return (number of a single part, node) for each one that may stand ahead, and the pair of the rows."""
        free = node[-1]
        found = []
        for number, part in enumerate(self._parts):
            if free or part[0] != "slot":
                sets = tuple([self._ahead(number, behind) for behind in node[:-1]])
                found.append((number, sets + (_is_free_ahead(part, free),)))
        if len(node) == 2 and free:
            sets = tuple([self._sets.ahead_of_row(row, node[0]) for row in self._rows])
            found.append((len(self._parts), sets + (False,)))
        return found

    def is_parting(self, node):
        """Whether the node is a pair whose other set has the start, and whose one set does not."""
        if len(node) == 2:
            return False
        start = 1 << self._reader.start
        return node[1] & start != 0 and node[0] & start == 0

    def _ahead(self, number, behind):
        """Return the set ahead of the single part with the number."""
        found = self._found[number]
        if behind not in found:
            found[behind] = self._sets.ahead(self._parts[number], behind)
        return found[behind]


def _is_free_ahead(part, free):
    """Whether a slot may stand ahead of the part, if one might stand in its place or not."""
    if part[0] == "slot":
        return False
    return free or len(told_marks(part)) > 0
