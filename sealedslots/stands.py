"""Stands of templates: how far which part has come behind a word.

A stand is a tuple (index of a part, progress): how many signs of a piece are read, how many names of a said part are
told, or the state of the language of a slot. Behind the last part there is the end stand.
"""

from sealedslots.languages import live_move
from sealedslots.search import graph_from
from sealedslots.values import is_below


def _is_complete(part, progress):
    """Whether the word of the part can end with the progress."""
    if part[0] == "slot":
        return part[2].is_member(progress)
    return progress == len(part[1])


def _progress_behind(part, progress, sign, told):
    """Return the progress behind a move with the sign that tells this, None if the move does not fit the part."""
    if part[0] == "piece":
        return progress + 1 if part[1][progress:progress + 1] == ((sign, told),) else None
    if told is None:
        return progress
    if part[0] == "said":
        return progress + 1 if part[1][progress:progress + 1] == (told,) else None
    return live_move(part[2], progress, told)


def is_stand(parts, value):
    """Whether the value is a stand of a template with these parts."""
    if not isinstance(value, tuple) or len(value) != 2 or not is_below(value[0], len(parts) + 1):
        return False
    index, progress = value
    if index == len(parts):
        return is_below(progress, 1)
    part = parts[index]
    return is_below(progress, len(part[2]) if part[0] == "slot" else len(part[1]) + 1)


def end_stand(parts):
    """Return the stand behind the last part."""
    return (len(parts), 0)


def open_stands(parts, stand):
    """Return the list of the stand and of those at which later parts begin, if all parts ahead of them are complete."""
    index, progress = stand
    found = [stand]
    while index < len(parts) and _is_complete(parts[index], progress):
        index, progress = index + 1, 0
        found.append((index, 0))
    return found


def first_open_stands(parts):
    """Return the list of the stands behind the empty word."""
    return open_stands(parts, (0, 0))


def stands_by_move(parts, stand, sign, told):
    """Return the list of the stands behind the stand by a move with the sign that tells this."""
    index, progress = stand
    if index == len(parts):
        return []
    after = _progress_behind(parts[index], progress, sign, told)
    return [] if after is None else open_stands(parts, (index, after))


def stand_graph(reader, parts):
    """Return (first nodes, graph from them, those of its nodes at which pages end).

    A node is a tuple (state, stand); ways with the same sign may lead to several of them.
    """
    def leads(node):
        state, stand = node
        return [(sign, (after, behind)) for sign, after, told in reader.moves(state)
                for behind in stands_by_move(parts, stand, sign, told)]

    firsts = [(reader.start, stand) for stand in first_open_stands(parts)]
    graph = graph_from(firsts, leads)
    ends = [node for node in graph if node[0] in reader.ends() and node[1] == end_stand(parts)]
    return (firsts, graph, ends)
