"""Slow ways to compute what given writers promise, without the program.

A writer is a tuple (opening, moves, endings, number of states); readers and machines are as in samples.
"""

from tests.samples import accepts, walk, words
from tests.slow import least_numbers, silent_set


def output_of(writer, text):
    """The output, or the position at which there is none."""
    opening, moves, endings, _ = writer
    page, state = opening, 0
    for place, sign in enumerate(text):
        if (state, sign) not in moves:
            return place
        state, word = moves[(state, sign)]
        page += word
    return page + endings[state] if state in endings else len(text)


def slow_failure(states, state, behind, writer, text):
    output = output_of(writer, text)
    if isinstance(output, int):
        return ("output", output)
    told = ""
    for place, sign in enumerate(output):
        if sign not in states[state]:
            return ("sign", place)
        state, name = states[state][sign]
        if name is not None and len(name) > 1:
            return ("mark", place)
        told += name or ""
    if told != text:
        return ("text", told)
    return None if state in behind else ("state", state)


def first_failing(states, state, behind, writer, machine, most, signs=None):
    """The first of the short texts of the language, of these signs, that fails."""
    for text in words(machine[0] if signs is None else signs, most):
        if accepts(machine, text) and slow_failure(states, state, behind, writer, text) is not None:
            return text
    return None


def lag_of(states, state, writer, text):
    """(writer state, state, owed, ahead) behind the text, None if no lag can be told."""
    opening, moves, _, _ = writer
    page, here = opening, 0
    for sign in text:
        if (here, sign) not in moves:
            return None
        here, word = moves[(here, sign)]
        page += word
    found = walk(states, state, page)
    if isinstance(found, int) or any(len(name) > 1 for name in found[0]):
        return None
    told = "".join(found[0])
    if text.startswith(told):
        return here, found[1], text[len(told):], ""
    return (here, found[1], "", told[len(text):]) if told.startswith(text) else None


class Walk:
    """The triples to which texts lead that begin texts of the language, with the lag behind one of these texts."""

    def __init__(self, states, state, behind, writer, machine):
        self.states, self.state, self.behind, self.writer = states, state, set(behind), writer
        self.signs, self.lang, self.found = machine
        self.numbers, self.live = least_numbers(machine)
        self.texts = {}
        self.lags = self.all_lags()

    def all_lags(self):
        """The lags; None if some text has none, or two texts have different ones, or one fails."""
        found = {}
        waiting = [("", 0)] if 0 in self.live else []
        while waiting:
            text, at = waiting.pop(0)
            lag = lag_of(self.states, self.state, self.writer, text)
            if lag is None:
                return None
            triple = (self.numbers[at], lag[0], lag[1])
            if at in self.found and slow_failure(self.states, self.state, self.behind, self.writer, text) is not None:
                return None
            if triple in found:
                if found[triple] != lag[2:]:
                    return None
                continue
            found[triple] = lag[2:]
            for sign in sorted(self.signs):
                after = self.lang[at][sign]
                if self.numbers[after] in self.live:
                    waiting.append((text + sign, after))
        return found

    def is_lags(self, value):
        """[25] for dicts whose keys and values have the right form."""
        if 0 not in self.live:
            return value == {}
        first = lag_of(self.states, self.state, self.writer, "")
        if first is None or value.get((0,) + first[:2]) != first[2:]:
            return False
        some = {number: at for at, number in self.numbers.items()}
        for (at, here, state), (owed, ahead) in value.items():
            if at not in self.live:
                return False
            if some[at] in self.found:
                ending = self.writer[2].get(here)
                told = None if ending is None else walk(self.states, state, ending)
                if ahead or told is None or isinstance(told, int):
                    return False
                if "".join(told[0]) != owed or any(len(name) > 1 for name in told[0]) or told[1] not in self.behind:
                    return False
            for sign in self.signs:
                after = self.numbers[self.lang[some[at]][sign]]
                if after in self.live and not self.follows(value, (here, state), (owed + sign, ahead), sign, after):
                    return False
        return True

    def follows(self, value, place, lag, sign, after):
        """Whether the value has the triple behind the sign with the lag that follows."""
        move = self.writer[1].get((place[0], sign))
        told = None if move is None else walk(self.states, place[1], move[1])
        if told is None or isinstance(told, int) or any(len(name) > 1 for name in told[0]):
            return False
        arrived, written = lag[0], lag[1] + "".join(told[0])
        if arrived.startswith(written):
            rest = (arrived[len(written):], "")
        elif written.startswith(arrived):
            rest = ("", written[len(arrived):])
        else:
            return False
        return value.get((after, move[0], told[1])) == rest


def silent_pass(states, state, word):
    """The state behind the word if it passes and tells nothing, otherwise None."""
    found = walk(states, state, word)
    return None if isinstance(found, int) or found[0] else found[1]


def end_sets(states, ends):
    """The end sets that follow from the set of the states in which outputs end."""
    found, waiting = {frozenset(ends)}, [frozenset(ends)]
    while waiting:
        chosen = waiting.pop()
        for sign in sorted({sign for moves in states for sign in moves}):
            moves = [states[state].get(sign) for state in chosen]
            if all(move is not None and move[1] is None for move in moves):
                after = frozenset(move[0] for move in moves)
                if after not in found:
                    found.add(after)
                    waiting.append(after)
    return found


def slow_is_quote_refusal(states, state, behind, walks, value):
    """[28] for values of the right form; walks has, for each state, (the texts that fail, or None; end states)."""
    if set(value) != silent_set(states, {state}):
        return False
    for here, (kind, shown) in value.items():
        fails, ends = walks[here]
        if fails is not None:
            if kind != "text" or not fails(shown):
                return False
        elif kind != "sets" or not all(tuple(sorted(chosen)) in shown for chosen in end_sets(states, ends)):
            return False
        elif any(set(chosen) <= set(behind) for chosen in shown):
            return False
    return True
