"""Slow ways to compute what doors and templates promise, without the program. Readers and machines are as in samples."""

from tests.samples import accepts, walk, words


def silent_set(states, chosen):
    """All states to which silent moves lead from the chosen ones."""
    found = set(chosen)
    while True:
        more = {move[0] for state in found for move in states[state].values() if move[1] is None}
        if more <= found:
            return found
        found |= more


def step_set(states, chosen, told):
    return silent_set(states, {move[0] for state in chosen for move in states[state].values() if move[1] == told})


def last_set(states, state, row):
    found = silent_set(states, {state})
    for told in row:
        found = step_set(states, found, told)
    return found


def rows_of_words(states, page_signs, most):
    """For each state, a dict from (row, last state) to the first of the short words that passes so."""
    tables = [{} for _ in states]
    for word in words(page_signs, most):
        for state, table in enumerate(tables):
            found = walk(states, state, word)
            if not isinstance(found, int):
                table.setdefault(found, word)
    return tables


def short_unwritable(states, state, behind, machine, most):
    """The first text of the language, of those with at most so many signs, that no word writes."""
    for text in words(machine[0], most):
        if accepts(machine, text) and not last_set(states, state, text) & set(behind):
            return text
    return None


def first_unwritable(states, state, behind, machine):
    """The first text of the language that no word writes. A longer text that leads to an old pair tells nothing new."""
    signs, lang, found = machine
    level = [("", 0, frozenset(silent_set(states, {state})))]
    met = {level[0][1:]}
    while level:
        longer = []
        for text, at, chosen in level:
            if at in found and not chosen & set(behind):
                return text
            for sign in sorted(signs):
                pair = lang[at][sign], frozenset(step_set(states, chosen, sign))
                if pair not in met:
                    met.add(pair)
                    longer.append((text + sign,) + pair)
        level = longer
    return None


def least_numbers(machine):
    """For each state of a machine that is met, the number of its class in the least machine; and the live numbers."""
    signs, lang, found = machine
    texts = {0: ""}
    for text in words(signs, len(lang)):
        at = 0
        for sign in text:
            at = lang[at][sign]
        texts.setdefault(at, text)

    def futures(at):
        told = []
        for text in words(signs, len(lang)):
            last = at
            for sign in text:
                last = lang[last][sign]
            told.append(last in found)
        return tuple(told)

    numbers, classes, live = {}, {}, set()
    for at in sorted(texts, key=lambda at: (len(texts[at]), texts[at])):
        future = futures(at)
        numbers[at] = classes.setdefault(future, len(classes))
        if any(future):
            live.add(numbers[at])
    return numbers, live


def met_pairs(states, state, machine):
    """The pairs of [11] that are met, with frozensets."""
    signs, lang, _ = machine
    numbers, live = least_numbers(machine)
    if numbers[0] not in live:
        return set()
    waiting = [(0, frozenset(silent_set(states, {state})))]
    met = set(waiting)
    while waiting:
        at, chosen = waiting.pop()
        for sign in signs:
            pair = lang[at][sign], frozenset(step_set(states, chosen, sign))
            if numbers[pair[0]] in live and pair not in met:
                met.add(pair)
                waiting.append(pair)
    return {(numbers[at], chosen) for at, chosen in met}


def part_ends(states, part, state):
    """The states behind all words that fit the piece or the said part."""
    if part[0] == "said":
        return last_set(states, state, part[1])
    found = walk(states, state, "".join(sign for sign, _ in part[1]))
    if isinstance(found, int):
        return set()
    told = []
    for sign, _ in part[1]:
        move = states[state][sign]
        told.append(move[1])
        state = move[0]
    return {state} if told == [mark for _, mark in part[1]] else set()


def ahead(spec, parts, machines):
    """The sets ahead of all parts, and the ends; machines has the machine for the name of each slot."""
    states, ends, _ = spec
    found = [set(ends)]
    for part in reversed(parts):
        if part[0] == "slot":
            found.append({state for state in range(len(states))
                          if first_unwritable(states, state, found[-1], machines[part[1]]) is None})
        else:
            found.append({state for state in range(len(states)) if part_ends(states, part, state) & found[-1]})
    return [tuple(sorted(chosen)) for chosen in reversed(found)]


def can_win(spec, parts, texts, index, state):
    """Whether writers fill the parts from the index on, each knowing its own text only; texts has all of each slot."""
    states, ends, _ = spec
    if index == len(parts):
        return state in ends
    part = parts[index]
    if part[0] == "slot":
        return all(any(can_win(spec, parts, texts, index + 1, last) for last in last_set(states, state, text))
                   for text in texts[part[1]])
    return any(can_win(spec, parts, texts, index + 1, last) for last in part_ends(states, part, state))
