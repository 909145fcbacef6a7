"""Searches in graphs whose edges are labelled with signs.

A graph is given by its first node and by a function `leads`: leads(node) is the list of the tuples
(sign, next node), by ascending signs. Nodes are integers, strings, or tuples of such.
"""


def explored(first, leads, is_goal):
    """Return a dict from the nodes that were met to (node before, sign), and the first goal, or None.

    The nodes stand in the order of the least words that lead to them, and the tuples retrace these words.
    """
    before = {first: None}
    queue = [first]
    at = 0
    # First in, first out, by ascending signs: this order is the order of the least words.
    while at < len(queue):
        node = queue[at]
        if is_goal(node):
            return (before, node)
        for sign, after in leads(node):
            if after not in before:
                before[after] = (node, sign)
                queue.append(after)
        at += 1
    return (before, None)


def reached(first, leads):
    """Return the list of all nodes to which words lead, in the order of the least of these words."""
    before, _ = explored(first, leads, lambda node: False)
    return list(before)


def least_way(first, leads, is_goal):
    """Return the least word that leads from the first node to a goal, None if there is none."""
    before, goal = explored(first, leads, is_goal)
    return None if goal is None else "".join(retraced(before, goal))


def retraced(before, node):
    """Return the list of the signs of the least word that leads to the node; before is what `explored` returns."""
    signs = []
    step = before[node]
    while step is not None:
        node, sign = step
        signs.append(sign)
        step = before[node]
    return list(reversed(signs))


def leading_into(goals, many, leads):
    """Return the sorted list of those of the nodes 0, 1 .. from which some word leads to a goal."""
    return sorted(distances_to(goals, {node: leads(node) for node in range(many)}))


def graph_from(firsts, leads):
    """Return the dict from all nodes to which words lead from the first nodes to their lists of leads."""
    graph = {}
    queue = list(firsts)
    at = 0
    while at < len(queue):
        node = queue[at]
        if node not in graph:
            graph[node] = leads(node)
            queue.extend([after for _, after in graph[node]])
        at += 1
    return graph


def longest_way(first, leads):
    """Return the greatest length of a word that leads from the first node to any node, None if there is none."""
    graph = graph_from([first], leads)
    waiting = {node: 0 for node in graph}
    for ways in graph.values():
        for _, after in ways:
            waiting[after] += 1
    lengths = {first: 0}
    queue = [node for node in graph if waiting[node] == 0]
    at = 0
    # A node is taken when all ways to it are known; on a circle that never happens.
    while at < len(queue):
        node = queue[at]
        for _, after in graph[node]:
            lengths[after] = max(lengths[node] + 1, lengths.get(after, 0))
            waiting[after] -= 1
            if waiting[after] == 0:
                queue.append(after)
        at += 1
    return None if len(queue) < len(graph) else max(lengths.values())


def distances_to(goals, graph):
    """Return the dict from all nodes of the graph from which words lead to goals to the least lengths of such words."""
    ahead = {}
    for node, ways in graph.items():
        for _, after in ways:
            ahead.setdefault(after, []).append(node)
    distances = {goal: 0 for goal in goals}
    queue = list(goals)
    at = 0
    while at < len(queue):
        node = queue[at]
        for before in ahead.get(node, []):
            if before not in distances:
                distances[before] = distances[node] + 1
                queue.append(before)
        at += 1
    return distances


def nearest_way(graph, distances, node):
    """Return the least word that leads from the node to a goal of the distances, None if there is none."""
    if node not in distances:
        return None
    signs = []
    while distances[node] > 0:
        sign, node = _first_nearer(graph[node], distances, distances[node])
        signs.append(sign)
    return "".join(signs)


def _first_nearer(ways, distances, many):
    """Return the first of the ways that leads to a node with a distance below so many; there is one."""
    return [(sign, after) for sign, after in ways if distances.get(after, many) < many][0]


def nearest_word(graph, distances, firsts):
    """Return the least word that leads from one of the first nodes to a goal of the distances, None if there is none.

    Several ways from a node may have the same sign.
    """
    length = min([distances[node] for node in firsts if node in distances], default=None)
    if length is None:
        return None
    signs = []
    nodes = [node for node in firsts if distances.get(node) == length]
    # All nodes to which the same least word leads are kept: any of them may go on with the least sign.
    for many in reversed(range(length)):
        ways = [way for here in nodes for way in graph[here] if distances.get(way[1]) == many]
        least = min([sign for sign, _ in ways])
        nodes = list({after: True for sign, after in ways if sign == least})
        signs.append(least)
    return "".join(signs)


class FirstTwo:
    """The first two values that are met with each key."""

    def __init__(self):
        self._met = {}

    def has(self, key, value):
        """Whether the value is one of the first two that were met with the key; it becomes one if there is room."""
        met = self._met.setdefault(key, [])
        if value not in met and len(met) < 2:
            met.append(value)
        return value in met
