"""Slow ways to compute what filling promises, without the program. Readers, machines and parts are as in samples."""

import itertools

from tests.samples import accepts, read, walk, words
from tests.slow import ahead, last_set, least_numbers, part_ends, silent_set, step_set


def slots_of(parts):
    return [part[1] for part in parts if part[0] == "slot"]


def word_text(states, part, state, word, machines):
    """(text or None, last state) if the word fits the part from the state, otherwise None."""
    found = walk(states, state, word)
    if isinstance(found, int):
        return None
    row, last = found
    if part[0] == "slot":
        text = "".join(row)
        machine = machines[part[1]]
        fits = all(len(told) == 1 and told in machine[0] for told in row) and accepts(machine, text)
        return (text, last) if fits else None
    if part[0] == "said":
        return (None, last) if row == part[1] else None
    told = []
    at = state
    for sign in word:
        at, name = states[at][sign]
        told.append((sign, name))
    return (None, last) if tuple(told) == part[1] else None


def texts_of_page(spec, parts, machines, page):
    """All tuples of texts with which the page fills the parts, by all ways to divide it."""
    states, ends, start = spec

    def rest_of(index, state, place):
        if index == len(parts):
            return {()} if place == len(page) and state in ends else set()
        found = set()
        for end in range(place, len(page) + 1):
            fit = word_text(states, parts[index], state, page[place:end], machines)
            if fit is not None:
                text, last = fit
                own = () if text is None else (text,)
                found |= {own + rest for rest in rest_of(index + 1, last, end)}
        return found

    return rest_of(0, start, 0)


def short_fillings(spec, parts, machines, page_signs, most):
    """The dict from the short pages that fill the parts to their texts, in the order of least words."""
    found = {}
    for page in words(page_signs, most):
        if not isinstance(read(spec, page), int):
            texts = texts_of_page(spec, parts, machines, page)
            if texts:
                found[page] = texts
    return found


def lasts_of_page(spec, parts, texts):
    """The states in which the words of pages with these texts end, ends or not; texts is a dict."""
    chosen = {spec[2]}
    for part in parts:
        chosen = {last for state in chosen for last in
                  (last_set(spec[0], state, texts[part[1]]) if part[0] == "slot" else part_ends(spec[0], part, state))}
    return chosen


def has_page(spec, parts, texts):
    return bool(lasts_of_page(spec, parts, texts) & set(spec[1]))


def texts_by_size(parts, machines, most):
    """All tuples of texts of the languages with at most so many signs together, the least ones first."""
    names = slots_of(parts)
    texts = {name: [text for text in words(machines[name][0], most) if accepts(machines[name], text)] for name in names}
    every = [chosen for chosen in itertools.product(*[texts[name] for name in names])
             if sum(len(text) for text in chosen) <= most]
    return sorted(every, key=lambda chosen: (sum(len(text) for text in chosen), chosen))


def first_unfillable(spec, parts, machines, most):
    """The first of the short texts for which no page fills the parts, as a tuple; None if there is none."""
    for chosen in texts_by_size(parts, machines, most):
        if not has_page(spec, parts, dict(zip(slots_of(parts), chosen))):
            return chosen
    return None


def plain_words(spec, parts, machines, texts, tables):
    """The words of the plain filling; tables has, for each state, the first short word for each (row, last state)."""
    sets = ahead(spec, parts, machines)
    state, found = spec[2], []
    for index, part in enumerate(parts):
        if part[0] == "piece":
            word = "".join(sign for sign, _ in part[1])
        else:
            row = tuple(texts[part[1]]) if part[0] == "slot" else part[1]
            known = [word for (told, last), word in tables[state].items() if told == row and last in sets[index + 1]]
            if not known:
                return None
            word = min(known, key=lambda word: (len(word), word))
        state = walk(spec[0], state, word)[1]
        found.append(word)
    return found


def gaps_of(parts):
    """The lists of the parts ahead of each slot, and behind the last one."""
    gaps = [[]]
    for part in parts:
        if part[0] == "slot":
            gaps.append([])
        else:
            gaps[-1].append(part)
    return gaps


def through(states, gap, chosen):
    for part in gap:
        chosen = {last for state in chosen for last in part_ends(states, part, state)}
    return set(chosen)


def slow_is_fill_cover(spec, parts, machines, value):
    """[16] for values of the right form, with the numbers of the least machines."""
    states, ends, start = spec
    names, gaps = slots_of(parts), gaps_of(parts)
    ahead_of_first = through(states, gaps[0], {start})
    if not names:
        return not value and bool(ahead_of_first & set(ends))

    def is_there(number, at, chosen):
        return any((other, state) == (number, at) and set(inner) <= set(chosen) for other, state, inner in value)

    if not is_there(0, 0, silent_set(states, ahead_of_first)):
        return False
    for number, at, chosen in value:
        signs, lang, found = machines[names[number]]
        numbers, live = least_numbers(machines[names[number]])
        if at not in live:
            return False
        known = [state for state, least in numbers.items() if least == at][0]
        for sign in signs:
            after = numbers[lang[known][sign]]
            if after in live and not is_there(number, after, step_set(states, set(chosen), sign)):
                return False
        if known in found:
            behind = through(states, gaps[number + 1], chosen)
            if number + 1 == len(names):
                if not behind & set(ends):
                    return False
            elif not is_there(number + 1, 0, silent_set(states, behind)):
                return False
    return True
