"""Least words that tell rows."""

from sealedslots.search import least_way


def least_told(reader, state, row, targets):
    """Return the least word that tells exactly the row and leads from the state to one of the targets, or None."""
    def leads(node):
        return _moves_along(reader, row, node)

    def is_goal(node):
        last, many = node
        return many == len(row) and last in targets

    # A node is a state with the number of names of the row that are told on the way to it.
    return least_way((state, 0), leads, is_goal)


def _moves_along(reader, row, node):
    """Return (sign, next node) for each move from the node that tells nothing, or the next name of the row."""
    state, many = node
    found = []
    for sign, after, told in reader.moves(state):
        if told is None:
            found.append((sign, (after, many)))
        elif many < len(row) and told == row[many]:
            found.append((sign, (after, many + 1)))
    return found
