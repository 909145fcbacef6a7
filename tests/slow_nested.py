"""Slow ways to compute what nested readers promise, without the program.

A nesting is a tuple (spec of the outer reader, state, states behind, machine of the outer language, spec of the inner
reader); the machine is a least one with its numbering.
"""

from tests.samples import accepts, walk, words
from tests.slow import last_set
from tests.slow_games import is_written


def triple_move(nesting, triple, sign):
    """(next triple, told outside, told), or None."""
    outer, _, _, (signs, lang, _), inner = nesting
    at, state, inside = triple
    if sign not in outer[0][at]:
        return None
    after, told = outer[0][at][sign]
    if told is None:
        return (after, state, inside), None, None
    if told not in signs or told not in inner[0][inside]:
        return None
    last, name = inner[0][inside][told]
    return (after, lang[state][told], last), told, name


def is_end(nesting, triple):
    _, _, behind, machine, inner = nesting
    at, state, inside = triple
    return at in behind and state in machine[2] and inside in inner[1]


def useful_triples(nesting):
    """The useful triples in the order in which words reach them: by their length, then in the order of strings."""
    outer, first, _, _, inner = nesting
    signs = sorted({sign for moves in outer[0] for sign in moves})
    start = (first, 0, inner[2])
    level, order = [start], [start]
    while level:
        longer = []
        for triple in level:
            for sign in signs:
                move = triple_move(nesting, triple, sign)
                if move is not None and move[0] not in order:
                    order.append(move[0])
                    longer.append(move[0])
        level = longer
    ending = {triple for triple in order if is_end(nesting, triple)}
    for _ in order:
        for triple in order:
            moves = [triple_move(nesting, triple, sign) for sign in signs]
            if any(move is not None and move[0] in ending for move in moves):
                ending.add(triple)
    return [triple for triple in order if triple in ending or triple == start]


def nested_states(nesting):
    """(states, ends) of the nested reader; its start is 0."""
    triples = useful_triples(nesting)
    states = []
    for triple in triples:
        moves = {}
        for sign in nesting[0][0][triple[0]]:
            move = triple_move(nesting, triple, sign)
            if move is not None and move[0] in triples:
                moves[sign] = triples.index(move[0]), move[2]
        states.append(moves)
    return states, [number for number, triple in enumerate(triples) if is_end(nesting, triple)]


def outside_moves(nesting, triples, state, word):
    """The tuple of (told outside, told) for the moves of the word that tell something outside, and the last state."""
    found = []
    for sign in word:
        move = triple_move(nesting, triples[state], sign)
        if move is None or move[0] not in triples:
            return None
        state = triples.index(move[0])
        if move[1] is not None:
            found.append((move[1], move[2]))
    return tuple(found), state


def lasts_outside(nesting, triples, state, wanted):
    """The states behind the words whose moves that tell something outside are those wanted, a list of tests."""
    signs = sorted({sign for moves in nesting[0][0] for sign in moves})

    def after(chosen, is_wanted):
        moves = [triple_move(nesting, triples[at], sign) for at in chosen for sign in signs]
        return {triples.index(move[0]) for move in moves if move is not None and move[0] in triples and is_wanted(*move[1:])}

    def closed(chosen):
        while True:
            more = after(chosen, lambda outside, told: outside is None) - chosen
            if not more:
                return chosen
            chosen = chosen | more

    chosen = closed({state})
    for is_wanted in wanted:
        chosen = closed(after(chosen, is_wanted))
    return chosen


def piece_lasts(nesting, triples, state, piece):
    """The states behind the words that tell exactly the piece outside."""
    return lasts_outside(nesting, triples, state, [lambda outside, told, move=move: (outside, told) == move for move in piece[1]])


def text_lasts(nesting, triples, text):
    """The states behind the words from the start that tell exactly the text outside."""
    return lasts_outside(nesting, triples, 0, [lambda outside, told, sign=sign: outside == sign for sign in text])


def sets_inside(nesting, parts, machines, vector):
    """The sets of [34], from the right."""
    triples = useful_triples(nesting)
    states, ends = nested_states(nesting)
    found, entries = [tuple(ends)], list(vector)
    for part in reversed(parts):
        behind = found[-1]
        if part[0] == "slot":
            entry = entries.pop()
            ahead = [state for state in range(len(states)) if is_written(states, state, behind, machines[part[1]], entry)]
        elif part[0] == "said":
            ahead = [state for state in range(len(states)) if last_set(states, state, part[1]) & set(behind)]
        else:
            ahead = [state for state in range(len(states)) if piece_lasts(nesting, triples, state, part) & set(behind)]
        found.append(tuple(ahead))
    return found[::-1]


def filling_inside(nesting, parts, sets, texts, most):
    """The page that is written part by part, None if some word is longer than the most."""
    triples, (states, _) = useful_triples(nesting), nested_states(nesting)
    signs = sorted({sign for moves in states for sign in moves})
    page, state = "", 0
    for index, part in enumerate(parts):
        for word in words(signs, most):
            passed = walk(states, state, word)
            if isinstance(passed, int) or passed[1] not in sets[index + 1]:
                continue
            if part[0] == "piece":
                fits = outside_moves(nesting, triples, state, word)[0] == part[1]
            else:
                fits = passed[0] == (tuple(texts[part[1]]) if part[0] == "slot" else part[1])
            if fits:
                page, state = page + word, passed[1]
                break
        else:
            return None
    return page


def is_carried_page(outer, state, behind, machine, page):
    """Whether the page belongs to the language and is writable."""
    return all(sign in machine[0] for sign in page) and accepts(machine, page) and bool(
        last_set(outer[0], state, page) & set(behind))
