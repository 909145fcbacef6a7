"""Writers that hold a few signs, and the places from which they can write whatever arrives.

A hold is a tuple (language state, held text): a place without its state. Sets of states are integers, as in `sets`.
"""

from sealedslots.languages import live_move
from sealedslots.search import graph_from
from sealedslots.sets import Sets, turned, unions


def hold_behind(language, look_ahead, hold, sign):
    """Return (sign to be written, or None; hold) behind the hold by the sign, None if it leads to no live state."""
    at, held = hold
    after = live_move(language, at, sign)
    if after is None:
        return None
    arrived = held + sign
    if len(held) < look_ahead:
        return (None, (after, arrived))
    return (arrived[0], (after, arrived[1:]))


def _hold_graph(language, look_ahead):
    """Return the dict from the holds that texts lead to, to the lists of their (sign to be written, hold) behind."""
    def leads(hold):
        ways = [hold_behind(language, look_ahead, hold, sign) for sign in language.signs]
        return [way for way in ways if way is not None]

    if language.is_empty:
        return {}
    return graph_from([(0, "")], leads)


def _graph_turned(graph):
    """Return the dict from the nodes of the graph to the lists of the nodes that lead to them."""
    before = {node: [] for node in graph}
    for node, ways in graph.items():
        for _, after in ways:
            before[after].append(node)
    return before


class Holding:
    """The holds of the texts of a language, for writers with a look-ahead from 0 to 3.

    All states and all sets of states behind share them.
    """

    def __init__(self, reader, language, look_ahead):
        sets = Sets(reader)
        self._everywhere = (1 << len(reader)) - 1
        self._silent_ahead = unions(turned(sets.lasts("")))
        self._sign_ahead = {sign: unions(turned(sets.lasts(sign))) for sign in language.signs}
        self._graph = _hold_graph(language, look_ahead)
        self._before = _graph_turned(self._graph)
        self._final = [hold for hold in self._graph if language.is_member(hold[0])]

    def writable(self, text, behind):
        """Return the set of the states from which the text is writable into the set behind."""
        bits = self._silent_ahead[behind]
        for sign in reversed(text):
            bits = self._sign_ahead[sign][bits]
        return bits

    def turns(self, behind):
        """Return, for each turn, the dict from the holds to the sets of the states whose places fall in it."""
        return self._played(behind)[1]

    def safe(self, behind):
        """Return the dict from the holds to the sets of the states whose places are safe."""
        return self._played(behind)[0]

    def ahead(self, behind):
        """Return the set of the states from which the door is written."""
        return self.safe(behind).get((0, ""), self._everywhere)

    def _played(self, behind):
        """Return (dict from the holds to the sets that never fall, list of the turns)."""
        final = {hold: self.writable(hold[1], behind) for hold in self._final}
        kept = {hold: self._everywhere for hold in self._graph}
        turns = []
        waiting = list(self._graph)
        # All places of a turn fall at once; only what stands before them can fall in the next one.
        while waiting:
            fallen = {}
            for hold in waiting:
                now = self._standing(hold, kept) & final.get(hold, self._everywhere)
                if now != kept[hold]:
                    fallen[hold] = kept[hold] ^ now
            for hold, bits in fallen.items():
                kept[hold] ^= bits
            turns.append(fallen)
            waiting = list({earlier: True for hold in fallen for earlier in self._before[hold]})
        return (kept, turns)

    def _standing(self, hold, kept):
        """Return the set of the states from which each sign leads from the hold to a place that is kept."""
        bits = self._everywhere
        for written, after in self._graph[hold]:
            if written is None:
                bits &= kept[after]
            else:
                bits &= self._sign_ahead[written][kept[after]]
        return bits
