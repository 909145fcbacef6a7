"""The pages that fill a template, as a machine in which each word leads to one place at most."""

from sealedslots.search import distances_to, least_way
from sealedslots.stands import stand_graph


class Course:
    """The places to which the words lead with which a template goes on: numbers, which are given when they are met."""

    def __init__(self, template):
        self._reader = template.reader
        firsts, self._graph, ends = stand_graph(template.reader, template.parts())
        self._ends = {node: True for node in ends}
        # What is left out here leads to no page that fills the template.
        self._live = distances_to(ends, self._graph)
        self._numbers = {}
        self._nodes = []
        self._ways = []
        self._first = self._place_of(firsts)

    def first(self):
        """Return the place of the empty word, None if no page fills the template."""
        return self._first

    def is_full(self, place):
        """Whether the words that lead to the place fill the template."""
        return any([node in self._ends for node in self._nodes[place]])

    def ways(self, place):
        """Return (sign, place behind, told) for each sign with which the template goes on, by ascending signs."""
        if self._ways[place] is None:
            self._ways[place] = self._found_ways(self._nodes[place])
        return self._ways[place]

    def leads(self, place):
        """Return (sign, place behind) for each sign with which the template goes on."""
        return [(sign, after) for sign, after, _ in self.ways(place)]

    def place_behind(self, place, sign):
        """Return the place behind the sign, None if the template does not go on with it, or there is no place."""
        if place is None:
            return None
        for other, after in self.leads(place):
            if other == sign:
                return after
        return None

    def least_rest(self, place):
        """Return the least word that leads from the place to one at which the template is filled."""
        return least_way(place, lambda at: self.leads(at), lambda other: self.is_full(other))

    def _place_of(self, nodes):
        """Return the number of the place with those of the nodes that are live, None if none is."""
        live = tuple(sorted({node for node in nodes if node in self._live}))
        if not live:
            return None
        if live not in self._numbers:
            self._numbers[live] = len(self._nodes)
            self._nodes.append(live)
            self._ways.append(None)
        return self._numbers[live]

    def _found_ways(self, nodes):
        """Return the ways behind the nodes, which have the same state of the reader."""
        found = []
        for sign, after, told in self._reader.moves(nodes[0][0]):
            behind = [way for node in nodes for other, way in self._graph[node] if other == sign]
            place = self._place_of(behind)
            if place is not None:
                found.append((sign, place, told))
        return found
