"""Sets of states of a reader as integers: state q is in the set if the bit 1 << q is one.

So a set is a key of dicts, one operation unites two of them, and a set is never below one that lies inside it.
"""

from sealedslots.search import reached


def bits_of(states):
    """Return the set of the states."""
    bits = 0
    for state in states:
        bits |= 1 << state
    return bits


def states_of(bits):
    """Return the sorted tuple of the states of the set."""
    return tuple([state for state in range(bits.bit_length()) if bits >> state & 1])


def has_inside(sets, bits):
    """Whether one of the sets lies inside the set."""
    for inner in sets:
        if inner & bits == inner:
            return True
    return False


def least_sets(sets):
    """Return those of the sets inside which no other one lies, each once, in ascending order."""
    least = []
    for bits in sorted(sets):
        if not has_inside(least, bits):
            least.append(bits)
    return least


class LeastSets:
    """The sets that were met with some keys, but for those inside which another one lies."""

    def __init__(self):
        self._met = {}
        self._least = {}

    def is_new(self, key, bits):
        """Whether none of the sets that were met with the key lies inside the set, which is met now."""
        # Most sets are met again and again; only the others are worth a look at all least ones.
        if (key, bits) in self._met:
            return False
        self._met[(key, bits)] = True
        least = self._least.get(key, [])
        if has_inside(least, bits):
            return False
        self._least[key] = [other for other in least if other & bits != bits] + [bits]
        return True


def joined(table, bits):
    """Return the union of the sets to which the table leads from the states of the set."""
    found = 0
    for state, more in enumerate(table):
        if bits >> state & 1:
            found |= more
    return found


def _silent_table(reader):
    """Return, for each state of the reader, the set of the states to which silent moves lead from it."""
    def leads(state):
        return [(sign, after) for sign, after, told in reader.moves(state) if told is None]

    return [bits_of(reached(state, leads)) for state in range(len(reader))]


def _told_tables(reader, silent_table):
    """Return a dict from what is told to the table of the states behind moves that tell it, and silent moves then."""
    tables = {}
    for state in range(len(reader)):
        for _, after, told in reader.moves(state):
            if told is not None:
                table = tables.setdefault(told, [0] * len(reader))
                table[state] |= silent_table[after]
    return tables


def turned(table):
    """Return, for each state, the set of the states that the table leads to a set with it."""
    return [bits_of([state for state, bits in enumerate(table) if bits >> after & 1]) for after in range(len(table))]


def unions(table):
    """Return, for each set of states, the union of the sets to which the table leads from its states."""
    found = [0]
    for more in table:
        found = found + [bits | more for bits in found]
    return found


def joined_inside(values):
    """Return, for each set of states, the union of the values of all sets inside it; values has one for each set."""
    found = list(values)
    bit = 1
    while bit < len(found):
        # Each round adds what the sets without this state have, those of the earlier rounds included.
        for bits in range(len(found)):
            if bits & bit:
                found[bits] |= found[bits ^ bit]
        bit *= 2
    return found


def inside_marks(sets, many):
    """Return, for each set of so many states, 1 if one of the sets lies inside it, otherwise 0.

    It takes the same time for any number of sets, and then one look for each question.
    """
    marks = [0] * (1 << many)
    for bits in sets:
        marks[bits] = 1
    return joined_inside(marks)


def ahead_of(table, behind):
    """Return the set of the states that the table leads to a set that shares a state with the set behind."""
    return bits_of([state for state, bits in enumerate(table) if bits & behind])


class Sets:
    """The ways from sets of states of a reader to others."""

    def __init__(self, reader):
        self._silent_table = _silent_table(reader)
        self._told_tables = _told_tables(reader, self._silent_table)

    def silent(self, bits):
        """Return the set of the states to which silent moves, perhaps none, lead from the set."""
        return joined(self._silent_table, bits)

    def step(self, bits, told):
        """Return the set of the states behind the moves from the set that tell this, and silent moves then."""
        return joined(self._told_tables.get(told, []), bits)

    def step_unions(self, told):
        """Return, for each set of states, the set that `step` leads to: worth it where most sets are asked for."""
        return unions(self._told_tables.get(told, [0] * len(self._silent_table)))

    def lasts(self, row):
        """Return, for each state, the set of the states behind the words that tell exactly the row from it."""
        return [self.last(state, row) for state in range(len(self._silent_table))]

    def last(self, state, row):
        """Return the set of the states behind the words that tell exactly the row, from the state."""
        bits = self._silent_table[state]
        for told in row:
            bits = self.step(bits, told)
        return bits
