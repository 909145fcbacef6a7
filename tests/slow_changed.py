"""Slow ways to compare readers, without the program. Readers are as in samples; MISSING stands for no reading."""

from tests.samples import read

MISSING = None


def row_of(spec, page):
    found = read(spec, page)
    return MISSING if isinstance(found, int) else found


def differ(one, other, page):
    return row_of(one, page) != row_of(other, page)


def passing(one, other, most):
    """All words with at most so many signs that pass in one of the readers, by length and then in the order of strings."""
    level, found = [("", one[2], other[2])], []
    while level:
        found += [word for word, _, _ in level]
        longer = []
        for word, first, second in level:
            moves = [{} if state is None else spec[0][state] for spec, state in ((one, first), (other, second))]
            for sign in sorted({*moves[0], *moves[1]}):
                after = [of[sign][0] if sign in of else None for of in moves]
                longer.append((word + sign, *after))
        level = longer if len(level[0][0]) < most else []
    return found


def ending(spec):
    """The states that can end."""
    states, ends, _ = spec
    found = set(ends)
    for _ in states:
        found |= {state for state, moves in enumerate(states) if any(after in found for after, _ in moves.values())}
    return found


def lag_behind(lag, first, second):
    """The lag behind what both tell now, or None: the rows are compared name by name."""
    one, two = list(lag[0]) + ([first] if first else []), list(lag[1]) + ([second] if second else [])
    while one and two:
        if one.pop(0) != two.pop(0):
            return None
    return tuple(one), tuple(two)


def needed_lags(one, other, pair, lag):
    """The list of (pair, lag) that [43] demands behind the pair; None in it if something cannot be."""
    live, found = (ending(one), ending(other)), []
    p, q = pair
    for sign in sorted({*one[0][p], *other[0][q]}):
        moves = [one[0][p].get(sign), other[0][q].get(sign)]
        can = [move is not None and move[0] in states for move, states in zip(moves, live)]
        if any(can):
            after = lag_behind(lag, moves[0][1], moves[1][1]) if all(can) else None
            found.append(None if after is None else ((moves[0][0], moves[1][0]), after))
    return found


def is_pair_lags(one, other, value):
    """[43] for dicts of the right form."""
    start = one[2], other[2]
    if (start[0] in ending(one) or start[1] in ending(other)) and value.get(start) != ((), ()):
        return False
    for pair, lag in value.items():
        ends = pair[0] in one[1], pair[1] in other[1]
        if ends[0] != ends[1] or (ends[0] and lag != ((), ())):
            return False
        for needed in needed_lags(one, other, pair, lag):
            if needed is None or value.get(needed[0]) != needed[1]:
                return False
    return True


def pair_lags(one, other):
    """The pair lags of readers that agree, from the starts on."""
    start = one[2], other[2]
    found = {}
    waiting = [(start, ((), ()))] if start[0] in ending(one) or start[1] in ending(other) else []
    while waiting:
        pair, lag = waiting.pop()
        if pair not in found:
            found[pair] = lag
            waiting += needed_lags(one, other, pair, lag)
    return found
