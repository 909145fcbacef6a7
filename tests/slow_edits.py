"""Slow ways to compute what documents promise, without the program. Readers, machines and parts are as in samples."""

from tests.samples import walk
from tests.slow import last_set
from tests.slow_fill import word_text


def row_of(part, texts):
    """What a said part or a slot tells."""
    return tuple(texts[part[1]]) if part[0] == "slot" else part[1]


def fit_end(states, part, texts, state, word):
    """The state behind the word if it fits the part from the state, with the texts in the slots; otherwise None."""
    found = walk(states, state, word)
    if isinstance(found, int):
        return None
    row, last = found
    if part[0] != "piece":
        return last if row == row_of(part, texts) else None
    told = []
    for sign in word:
        told.append((sign, states[state][sign][1]))
        state = states[state][sign][0]
    return last if tuple(told) == part[1] else None


def divisions(spec, parts, machines, page):
    """All tuples of lengths with which the page can be divided into words that fit, from the start to an end."""
    states, ends, start = spec

    def rest_of(index, state, place):
        if index == len(parts):
            return [()] if place == len(page) and state in ends else []
        found = []
        for end in range(place, len(page) + 1):
            fit = word_text(states, parts[index], state, page[place:end], machines)
            if fit is not None:
                found += [(end - place,) + rest for rest in rest_of(index + 1, fit[1], end)]
        return found

    return rest_of(0, start, 0)


def cut(page, lengths):
    found, place = [], 0
    for length in lengths:
        found.append(page[place:place + length])
        place += length
    return found


def states_of(spec, document):
    """The states ahead of all words, and behind the last one."""
    found = [spec[2]]
    for word in document:
        found.append(walk(spec[0], found[-1], word)[1])
    return found


class Editing:
    """A template with its sets ahead, and what may be written in it; texts and words are given with each question."""

    def __init__(self, spec, parts, sets, tables):
        self.states, self.ends, self.start = spec
        self.parts = parts
        # Only where the template is sealed, the sets ahead bind new documents.
        self.sealed = self.start in sets[0]
        everywhere = tuple(range(len(self.states)))
        self.bounds = sets if self.sealed else [everywhere] * len(parts) + [tuple(self.ends)]
        self.tables = tables

    def options(self, index, state, texts, known, changed):
        """(state behind, whether it is rewritten) for the word that is kept, and for any other one."""
        part = self.parts[index]
        kept = None if index == changed else fit_end(self.states, part, texts, state, known[index])
        if part[0] == "piece":
            return [(kept, False)] if kept is not None else []
        found = [(last, index != changed) for last in last_set(self.states, state, row_of(part, texts))]
        return found + ([(kept, False)] if kept is not None else [])

    def counts(self, texts, known, changed):
        """For each index, the set of all (state, number ahead, number behind) with which the words before it can end."""
        levels = [{(self.start, 0, 0)}]
        for index in range(len(self.parts)):
            after = set()
            for state, ahead, behind in levels[-1]:
                for last, rewritten in self.options(index, state, texts, known, changed):
                    if last in self.bounds[index + 1]:
                        is_ahead = changed is None or index < changed
                        after.add((last, ahead + (rewritten and is_ahead), behind + (rewritten and not is_ahead)))
            levels.append(after)
        return levels

    def least_counts(self, texts, known, changed):
        """(number ahead, number behind) of the least new document, None if there is none."""
        return min([(ahead, behind) for _, ahead, behind in self.counts(texts, known, changed)[-1]], default=None)

    def reach(self, texts, known, changed, most_ahead, most_behind):
        found = []
        for level in self.counts(texts, known, changed):
            found.append(tuple(sorted({state for state, ahead, behind in level if ahead <= most_ahead and behind <= most_behind})))
        return found

    def documents(self, texts, most):
        """All new documents, as lists of words, whose pages have at most so many signs: with no regard to the old words."""
        def rest_of(index, state, left):
            if index == len(self.parts):
                return [[]]
            part = self.parts[index]
            found = []
            for word, (row, last) in self.tables[state]:
                if len(word) > left:
                    break
                if last in self.bounds[index + 1] and fit_end(self.states, part, texts, state, word) is not None:
                    found += [[word] + rest for rest in rest_of(index + 1, last, left - len(word))]
            return found

        return rest_of(0, self.start, most)

    def order(self, document, known, changed):
        """The key by which the least new document is found."""
        rewritten = [index for index in range(len(known)) if index != changed and document[index] != known[index]]
        ahead = [index for index in rewritten if changed is None or index < changed]
        page = "".join(document)
        return len(ahead), len(rewritten) - len(ahead), len(page), page, tuple(len(word) for word in document)


def passing_words(states, state, most):
    """All words that pass from the state, of at most so many signs, by their length and then in the order of strings."""
    level, found = [("", state)], []
    while level:
        found += [word for word, _ in level]
        level = sorted((word + sign, after) for word, at in level for sign, (after, _) in states[at].items() if len(word) < most)
    return found


def words_by_state(states, most):
    """For each state, the list of (word, (row, last state)) of all short words that pass, the shortest ones first."""
    return [[(word, walk(states, state, word)) for word in passing_words(states, state, most)] for state in range(len(states))]
