"""Writers that get the whole text first: the states from which all texts of a language are written.

Sets of states are integers, as in `sets`.
"""

from sealedslots.languages import live_leads
from sealedslots.sets import Sets, joined_inside


class WholeTexts:
    """The last states of the texts of a language, from all states of a reader at once."""

    def __init__(self, reader, language):
        self._everywhere = (1 << len(reader)) - 1
        # For each set, the states from which some text of the language leads to states of this set only.
        self._lost = joined_inside(_states_ahead(reader, language))

    def ahead(self, behind):
        """Return the set of the states from which the door into the set behind is wide."""
        return self._everywhere & ~self._lost[self._everywhere & ~behind]


def _states_ahead(reader, language):
    """Return, for each set, the set of the states from which it is the last states of some text of the language."""
    found = [0] * (1 << len(reader))
    if language.is_empty:
        return found
    for at, starts in enumerate(_states_before(reader, language)):
        if language.is_member(at):
            found = [bits | more for bits, more in zip(found, starts)]
    return found


def _states_before(reader, language):
    """Return, for each state of the language and each set, the set of the states from which texts lead to both."""
    sets = Sets(reader)
    steps = {sign: sets.step_unions(sign) for sign in language.signs}
    ways = [[(steps[sign], after) for sign, after in live_leads(language, at)] for at in range(len(language))]
    starts = [[0] * (1 << len(reader)) for _ in range(len(language))]
    queue = [(0, bits) for bits in sets.lasts("")]
    for state, bits in enumerate(sets.lasts("")):
        starts[0][bits] |= 1 << state
    place = 0
    while place < len(queue):
        at, bits = queue[place]
        for step, after in ways[at]:
            more = starts[at][bits] | starts[after][step[bits]]
            # A pair is met again whenever texts from further states lead to it.
            if more != starts[after][step[bits]]:
                starts[after][step[bits]] = more
                queue.append((after, step[bits]))
        place += 1
    return starts
