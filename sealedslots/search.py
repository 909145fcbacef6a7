"""Searches in graphs whose edges are labelled with signs.

A graph is given by its first node and by a function `leads`: leads(node) is the list of the tuples
(sign, next node), by ascending signs. Nodes are integers, strings, or tuples of such.
"""


def explored(first, leads, is_goal):
    """Return a dict from the nodes that were met to (node before, sign), and the first goal, or None.

    The nodes stand in the order of the least words that lead to them, and the tuples retrace these words.
    """
    before = {first: None}
    queue = [first]
    at = 0
    # First in, first out, by ascending signs: this order is the order of the least words.
    while at < len(queue):
        node = queue[at]
        if is_goal(node):
            return (before, node)
        for sign, after in leads(node):
            if after not in before:
                before[after] = (node, sign)
                queue.append(after)
        at += 1
    return (before, None)


def reached(first, leads):
    """Return the list of all nodes to which words lead, in the order of the least of these words."""
    before, _ = explored(first, leads, lambda node: False)
    return list(before)


def least_way(first, leads, is_goal):
    """Return the least word that leads from the first node to a goal, None if there is none."""
    before, goal = explored(first, leads, is_goal)
    if goal is None:
        return None
    signs = []
    step = before[goal]
    while step is not None:
        node, sign = step
        signs.append(sign)
        step = before[node]
    return "".join(reversed(signs))


def leading_into(goals, many, leads):
    """Return the sorted list of those of the nodes 0, 1 .. from which some word leads to a goal."""
    found = {node: True for node in goals}
    before = -1
    while len(found) > before:
        before = len(found)
        for node in range(many):
            if any([after in found for _, after in leads(node)]):
                found[node] = True
    return sorted(found)
