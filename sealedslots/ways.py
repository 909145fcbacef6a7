"""Least words that tell rows."""

from sealedslots.search import least_way, reached


def least_told(reader, state, row, targets):
    """Return the least word that tells exactly the row and leads from the state to one of the targets, or None."""
    def leads(node):
        return _moves_along(reader, row, node)

    def is_goal(node):
        last, many = node
        return many == len(row) and last in targets

    # A node is a state with the number of names of the row that are told on the way to it.
    return least_way((state, 0), leads, is_goal)


def _moves_along(reader, row, node):
    """Return (sign, next node) for each move from the node that tells nothing, or the next name of the row."""
    state, many = node
    found = []
    for sign, after, told in reader.moves(state):
        if told is None:
            found.append((sign, (after, many)))
        elif many < len(row) and told == row[many]:
            found.append((sign, (after, many + 1)))
    return found


def lasts_by_words(reader, state, row):
    """Return the list of the states behind the words that tell exactly the row, in the order of the least words."""
    nodes = reached((state, 0), lambda node: _moves_along(reader, row, node))
    return [last for last, many in nodes if many == len(row)]
