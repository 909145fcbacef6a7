"""Slow ways to compute what stands and several templates promise, without the program.

Readers, machines and parts are as in samples; the states of languages are those of their least machines.
"""

from tests.samples import walk
from tests.slow import least_numbers
from tests.slow_exchange import marks_of


def divided_stands(course, word):
    """The stands behind the word, by all ways to divide it into words of the parts, the last of which may go on."""
    states, _, start = course.spec
    found = set()
    if isinstance(walk(states, start, word), int):
        return found

    def rest_of(index, state, place):
        if index == len(course.parts):
            if place == len(word):
                found.add((index, 0))
            return
        progress = course.begin(index)
        for end in range(place, len(word) + 1):
            if end == len(word):
                found.add((index, progress))
            if course.is_complete((index, progress)):
                rest_of(index + 1, state, end)
            if end == len(word):
                return
            sign = word[end]
            state, told = states[state][sign]
            progress = course.progress_behind(index, progress, sign, told)
            if progress is None:
                return

    rest_of(0, start, 0)
    return found


class SlowCourse:
    """A template whose stands are followed sign by sign, as [40] says it."""

    def __init__(self, spec, parts, machines):
        self.spec, self.parts = spec, parts
        self.languages = {}
        for name, (signs, lang, found) in machines.items():
            numbers, live = least_numbers((signs, lang, found))
            moves = {number: {sign: numbers[lang[at][sign]] for sign in signs} for at, number in numbers.items()}
            members = {number for at, number in numbers.items() if at in found}
            self.languages[name] = moves, members, live

    def begin(self, index):
        return 0

    def is_complete(self, stand):
        index, progress = stand
        if index == len(self.parts):
            return False
        part = self.parts[index]
        if part[0] == "slot":
            return progress in self.languages[part[1]][1]
        return progress == (len(part[1]) if part[0] == "piece" else len(marks_of(part)))

    def progress_behind(self, index, progress, sign, told):
        part = self.parts[index]
        if part[0] == "piece":
            return progress + 1 if progress < len(part[1]) and part[1][progress] == (sign, told) else None
        if told is None:
            return progress
        if part[0] == "said":
            return progress + 1 if progress < len(part[1]) and part[1][progress] == told else None
        moves, _, live = self.languages[part[1]]
        after = moves[progress].get(told)
        return after if after in live else None

    def closed(self, stands):
        found = set(stands)
        while True:
            more = {(index + 1, 0) for index, progress in found if self.is_complete((index, progress))} - found
            if not more:
                return frozenset(found)
            found |= more

    def first(self):
        """(state, stands) at the beginning."""
        return self.spec[2], self.closed({(0, 0)})

    def behind(self, node, sign):
        """(state, stands) behind the sign, None if it has no move."""
        state, stands = node
        if sign not in self.spec[0][state]:
            return None
        after, told = self.spec[0][state][sign]
        found = set()
        for index, progress in stands:
            if index < len(self.parts):
                more = self.progress_behind(index, progress, sign, told)
                if more is not None:
                    found.add((index, more))
        return after, self.closed(found)

    def behind_word(self, word):
        node = self.first()
        for sign in word:
            node = node and self.behind(node, sign)
        return node

    def is_full(self, node):
        state, stands = node
        return state in self.spec[1] and (len(self.parts), 0) in stands

    def signs(self):
        return sorted({sign for moves in self.spec[0] for sign in moves})

    def least_rest(self, node):
        """The least word with which the template is filled from the node, None if there is none."""
        if node is None:
            return None
        found = least_word(node, lambda at: [(sign, self.behind(at, sign)) for sign in self.signs()], self.is_full)
        return found

    def goes_on(self, word):
        return self.least_rest(self.behind_word(word)) is not None


def least_word(first, leads, is_goal):
    """The least word that leads to a goal, by levels of words."""
    level, met = [("", first)], {first}
    while level:
        for word, node in level:
            if is_goal(node):
                return word
        longer = []
        for word, node in level:
            for sign, after in leads(node):
                if after is not None and after not in met:
                    met.add(after)
                    longer.append((word + sign, after))
        level = sorted(longer, key=lambda pair: pair[0])
    return None


def common_page(one, other):
    """The least page that fills both templates, None if there is none."""
    def leads(nodes):
        pairs = [(sign, (one.behind(nodes[0], sign), other.behind(nodes[1], sign))) for sign in one.signs()]
        return [(sign, pair) for sign, pair in pairs if None not in pair]

    return least_word((one.first(), other.first()), leads, lambda nodes: one.is_full(nodes[0]) and other.is_full(nodes[1]))


def followers(one, other, node):
    """The tuples (state, stand, stand) that [41] demands behind one of them."""
    state, first, second = node
    for sign in one.spec[0][state]:
        after, _ = one.spec[0][state][sign]
        for stand in one.behind((state, {first}), sign)[1]:
            for last in other.behind((state, {second}), sign)[1]:
                yield after, stand, last


def first_tuples(one, other):
    return {(one.spec[2], stand, last) for stand in one.first()[1] for last in other.first()[1]}


def is_common(one, other, node):
    state, first, second = node
    return state in one.spec[1] and first == (len(one.parts), 0) and second == (len(other.parts), 0)


def apartness(one, other):
    """All tuples that follow from the first ones."""
    found, waiting = set(), list(first_tuples(one, other))
    while waiting:
        node = waiting.pop()
        if node not in found:
            found.add(node)
            waiting.extend(followers(one, other, node))
    return found


def is_apartness(one, other, value):
    """[41] for lists of the right form."""
    if not all(node in value for node in first_tuples(one, other)):
        return False
    for node in value:
        if is_common(one, other, node) or not all(after in value for after in followers(one, other, node)):
            return False
    return True


def decided_after(one, other):
    """The greatest length of a word with which both go on, by the nodes that all words of each length lead to."""
    level, length, seen = {(one.first(), other.first())}, -1, []
    while True:
        level = {pair for pair in level if one.least_rest(pair[0]) is not None and other.least_rest(pair[1]) is not None}
        if not level:
            return length
        # If the nodes of one length come again, so do all that follow.
        if level in seen:
            return None
        seen.append(level)
        length += 1
        level = {(one.behind(first, sign), other.behind(second, sign)) for first, second in level for sign in one.signs()
                 if one.behind(first, sign) is not None}
