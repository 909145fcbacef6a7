"""Least words that tell rows.

The moves of a machine are given by a function: moves_of(state) is the list of the tuples (sign, next state, label), by
ascending signs. A row is a sequence of labels; a move whose label is None tells nothing.
"""

from sealedslots.search import explored, least_way, reached, retraced


def least_told(reader, state, row, targets):
    """Return the least word that tells exactly the row and leads from the state to one of the targets, or None."""
    return least_along(lambda at: list(reader.moves(at)), state, row, targets)


def least_along(moves_of, state, row, targets):
    """Return what least_told returns, for any machine."""
    def is_goal(node):
        last, many = node
        return many == len(row) and last in targets

    # A node is a state with the number of names of the row that are told on the way to it.
    return least_way((state, 0), lambda node: _moves_along(moves_of, row, node), is_goal)


def _moves_along(moves_of, row, node):
    """Return (sign, next node) for each move from the node that tells nothing, or the next name of the row."""
    state, many = node
    found = []
    for sign, after, told in moves_of(state):
        if told is None:
            found.append((sign, (after, many)))
        elif many < len(row) and told == row[many]:
            found.append((sign, (after, many + 1)))
    return found


def lasts_by_words(reader, state, row):
    """Return the list of the states behind the words that tell exactly the row, in the order of the least words."""
    return lasts_along(lambda at: list(reader.moves(at)), state, row)


def lasts_along(moves_of, state, row):
    """Return what lasts_by_words returns, for any machine."""
    nodes = reached((state, 0), lambda node: _moves_along(moves_of, row, node))
    return [last for last, many in nodes if many == len(row)]


def words_to_lasts(reader, state, row):
    """Return the dict from the states behind the words that tell exactly the row to the least of these words."""
    def leads(node):
        return _moves_along(lambda at: list(reader.moves(at)), row, node)

    before, _ = explored((state, 0), leads, lambda node: False)
    return {node[0]: "".join(retraced(before, node)) for node in before if node[1] == len(row)}
