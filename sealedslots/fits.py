"""Pages of templates for given texts: how they are divided into words that fit the parts, and the least ones."""

from sealedslots.pages import passed, steps
from sealedslots.parts import told_marks
from sealedslots.search import distances_to, nearest_word
from sealedslots.stands import stand_graph


def names_told(part, texts):
    """Return the tuple of what the part tells, with the texts in the slots."""
    return tuple(texts[part[1]]) if part[0] == "slot" else tuple(told_marks(part))


def divided(template, texts, page):
    """Return the words into which the page is divided, None if it does not fill the template with these texts.

    The texts belong to the languages of the slots.
    """
    reader = template.reader
    found = passed(reader, reader.start, page)
    if found is None or found[1] not in reader.ends() or found[0] != template.row(texts):
        return None
    moves = [(sign, told) for sign, (_, told) in zip(page, steps(reader, page))]
    begins = _begins(template.parts(), texts, moves)
    return _first_words(template.parts(), page, begins) if 0 in begins[0] else None


def _begins(parts, texts, moves):
    """Return, for each part and behind the last one, the sorted list of the places at which its word can begin.

    From there the page can be divided into words that fit. What the whole page tells is the row already. So it is
    enough to compare how many names are told, but for the moves of a piece.
    """
    counts = _counts_of_told(moves)
    many = counts[-1]
    begins = [[len(moves)]]
    for part in reversed(parts):
        behind = begins[-1]
        many -= len(names_told(part, texts))
        if part[0] == "piece":
            places = [place - len(part[1]) for place in behind]
            begins.append([place for place in places if place >= 0 and _is_at(moves, place, part[1])])
        else:
            last = max(behind, default=-1)
            begins.append([place for place, count in enumerate(counts) if count == many and place <= last])
    return list(reversed(begins))


def _counts_of_told(moves):
    """Return, for each number of moves from the beginning, how many names they tell."""
    counts = [0]
    for _, told in moves:
        counts.append(counts[-1] + (0 if told is None else 1))
    return counts


def _is_at(moves, place, piece_moves):
    """Whether the moves of a piece stand at the place."""
    return tuple(moves[place:place + len(piece_moves)]) == piece_moves


def _first_words(parts, page, begins):
    """Return the words whose lengths are the first ones, in sorted order, with which each begins where it can."""
    words = []
    place = 0
    for index, part in enumerate(parts):
        least = place + len(part[1]) if part[0] == "piece" else place
        after = min([other for other in begins[index + 1] if other >= least])
        words.append(page[place:after])
        place = after
    return words


def least_fit(template, texts):
    """Return the least page that fills the template with these texts, None if there is none."""
    # A slot whose text is known is like a said part that tells the signs of the text.
    parts = [("said", names_told(part, texts)) if part[0] == "slot" else part for part in template.parts()]
    firsts, graph, ends = stand_graph(template.reader, parts)
    return nearest_word(graph, distances_to(ends, graph), firsts)
