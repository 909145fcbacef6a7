"""How the words of a page are rewritten, part by part, so that the texts change or another reader reads them.

A task is a tuple (part, row, word, cost): what the part tells now, the word that it may keep, None for the slot that is
changed, and the tuple (number ahead, number behind) for which rewriting it counts.
"""

from sealedslots.fits import names_told
from sealedslots.pages import passed
from sealedslots.parts import piece_end
from sealedslots.sealing import sets_ahead
from sealedslots.sets import Sets, states_of
from sealedslots.ways import words_to_lasts

FREE = (0, 0)
AHEAD = (1, 0)
BEHIND = (0, 1)


def bounds_of(template):
    """Return, for each part and behind the last one, the states in which words of new documents may begin and end."""
    sets = sets_ahead(template)
    if template.reader.start in sets[0]:
        return sets
    everywhere = tuple(range(len(template.reader)))
    return [everywhere] * len(template) + [template.reader.ends()]


def moving_tasks(parts, texts, words):
    """Return the tasks if no slot is changed."""
    return [(part, names_told(part, texts), word, AHEAD) for part, word in zip(parts, words)]


def changing_tasks(parts, texts, words, index):
    """Return the tasks if the slot at the index is changed; texts has its new text."""
    found = []
    for at, (part, row, word, cost) in enumerate(moving_tasks(parts, texts, words)):
        if at == index:
            found.append((part, row, None, FREE))
        else:
            found.append((part, row, word, cost if at < index else BEHIND))
    return found


def _kept_last(reader, task, state):
    """Return the state behind the word that is kept, None if it does not fit from the state, or none is kept."""
    part, row, word, _ = task
    if part[0] == "piece":
        return piece_end(reader, state, part)
    found = None if word is None else passed(reader, state, word)
    return found[1] if found is not None and found[0] == row else None


def least_rewriting(reader, tasks, bounds):
    """Return (number ahead, number behind, words) of the least new document, None if there is none.

    A least one has a least rest behind each of its parts. So it is enough to know the least rest for each state.
    """
    rests = {state: (0, 0, 0, "", ()) for state in bounds[-1]}
    for index in reversed(range(len(tasks))):
        rests = _rests_ahead(reader, tasks[index], bounds[index], rests)
    if reader.start not in rests:
        return None
    ahead, behind, _, page, lengths = rests[reader.start]
    return (ahead, behind, _cut(page, lengths))


def _rests_ahead(reader, task, states, rests):
    """Return the dict from those of the states from which the task can be done to the least rests."""
    found = {}
    for state in states:
        choices = _choices(reader, task, state, rests)
        if choices:
            found[state] = min(choices)
    return found


def _choices(reader, task, state, rests):
    """Return the list of the rests with the word that is kept, and with the least words that lead to each state."""
    part, row, word, cost = task
    found = []
    kept = _kept_last(reader, task, state)
    if kept in rests:
        found.append(_with_word(FREE, word, rests[kept]))
    if part[0] != "piece":
        for last, other in words_to_lasts(reader, state, row).items():
            if last in rests:
                found.append(_with_word(cost, other, rests[last]))
    return found


def _with_word(cost, word, rest):
    """Return the rest with one more word ahead. Rests are compared as tuples: the page by its length first."""
    ahead, behind, length, page, lengths = rest
    return (ahead + cost[0], behind + cost[1], length + len(word), word + page, (len(word),) + lengths)


def _cut(page, lengths):
    """Return the list of the words of these lengths."""
    words = []
    place = 0
    for length in lengths:
        words.append(page[place:place + length])
        place += length
    return words


def reached_states(reader, tasks, bounds, most):
    """Return, for each task and behind the last one, the sorted tuple of the states in which its word can begin.

    At most as many words are rewritten as `most` says, a tuple (number ahead, number behind).
    """
    sets = Sets(reader)
    counts = {reader.start: 0}
    found = [(reader.start,)]
    for index, task in enumerate(tasks):
        counts = _counts_behind(reader, sets, task, counts, most)
        counts = {state: counts[state] for state in bounds[index + 1] if state in counts}
        found.append(tuple(sorted(counts)))
    return found


def _counts_behind(reader, sets, task, counts, most):
    """Return the dict from the states behind the task to the least numbers of words that are rewritten up to there.

    They are counted anew behind the slot that is changed.
    """
    part, row, word, cost = task
    limit = most[0] if cost == AHEAD else most[1]
    found = {}
    for state, count in counts.items():
        ways = [(_kept_last(reader, task, state), count)]
        rewritten = 0 if word is None else count + 1
        if part[0] != "piece" and rewritten <= limit:
            ways.extend([(last, rewritten) for last in states_of(sets.last(state, row))])
        for last, many in ways:
            if last is not None:
                found[last] = min(many, found.get(last, many))
    return found
