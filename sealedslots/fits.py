"""Pages of templates for given texts: whether they are divided into words that fit the parts, and the least ones."""

from sealedslots.pages import passed, steps
from sealedslots.parts import told_marks
from sealedslots.search import distances_to, graph_from, nearest_word


def _names_of(part, texts):
    """Return the list of what the part tells, with the texts in the slots."""
    if part[0] == "slot":
        return list(texts[part[1]])
    return told_marks(part)


def is_divisible(template, texts, page):
    """Whether the page fills the template with these texts, which belong to the languages of the slots."""
    reader = template.reader
    found = passed(reader, reader.start, page)
    if found is None or found[1] not in reader.ends() or found[0] != template.row(texts):
        return False
    moves = [(sign, told) for sign, (_, told) in zip(page, steps(reader, page))]
    counts = _counts_of_told(moves)
    places = [0]
    many = 0
    for part in template.parts():
        many += len(_names_of(part, texts))
        places = _places_behind(part, moves, counts, many, places)
    return len(page) in places


def _counts_of_told(moves):
    """Return, for each number of moves from the beginning, how many names they tell."""
    counts = [0]
    for _, told in moves:
        counts.append(counts[-1] + (0 if told is None else 1))
    return counts


def _places_behind(part, moves, counts, many, places):
    """Return the places at which words end that begin at the places and fit the part; so many names are told there.

    What the whole page tells is the row already. So it is enough to compare numbers, but for the moves of a piece.
    """
    if part[0] == "piece":
        length = len(part[1])
        return [place + length for place in places if moves[place:place + length] == list(part[1])]
    return [place for place, count in enumerate(counts) if count == many and places and place >= places[0]]


def least_fit(template, texts):
    """Return the least page that fills the template with these texts, None if there is none."""
    reader = template.reader
    parts = [(part, _names_of(part, texts)) for part in template.parts()]
    first = (reader.start, 0, 0)
    # A node is a state of the reader with the index of a part and with how much of this part is read or told.
    graph = graph_from([first], lambda node: _ways(reader, parts, node))
    goals = [node for node in graph if node[0] in reader.ends() and _is_end(parts, node)]
    return nearest_word(graph, distances_to(goals, graph), first)


def _is_end(parts, node):
    """Whether nothing of the parts needs to follow."""
    return (len(parts), 0) in _open_places(parts, node)


def _open_places(parts, node):
    """Return the list of the (index, how much of the part) at which the next sign may be read."""
    _, index, much = node
    found = [(index, much)]
    while index < len(parts) and much == _size(parts[index]):
        index, much = index + 1, 0
        found.append((index, much))
    return found


def _size(part_names):
    """Return how much is read or told when the part is complete."""
    part, names = part_names
    return len(part[1]) if part[0] == "piece" else len(names)


def _ways(reader, parts, node):
    """Return (sign, node) for each move that goes on with the parts."""
    state, _, _ = node
    found = []
    for index, much in _open_places(parts, node):
        for sign, after, told in reader.moves(state):
            more = None if index == len(parts) else _much_behind(parts[index], much, sign, told)
            if more is not None:
                found.append((sign, (after, index, more)))
    return found


def _much_behind(part_names, much, sign, told):
    """Return how much of the part is read or told behind the move, None if the move does not fit."""
    part, names = part_names
    if part[0] == "piece":
        return much + 1 if part[1][much:much + 1] == ((sign, told),) else None
    if told is None:
        return much
    return much + 1 if names[much:much + 1] == [told] else None
