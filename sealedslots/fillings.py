"""For which texts pages fill a template, when the writers may see the texts of all slots.

A node is a tuple (number of a slot, language state, set of states as an integer).
"""

from sealedslots.languages import live_leads
from sealedslots.parts import fixed_lasts
from sealedslots.sets import Sets, bits_of, joined, unions

# It stands between the texts of two slots, and it is less than any sign: a text is less than those that it begins.
BETWEEN = " "


class Fillings:
    """The sets of states to which pages lead that have the same texts in the slots."""

    def __init__(self, template):
        reader = template.reader
        self._sets = Sets(reader)
        self._ends = bits_of(reader.ends())
        self._languages = [template.language_of(name) for name in template.slots()]
        signs = sorted({sign for language in self._languages for sign in language.signs})
        self._steps = {sign: self._sets.step_unions(sign) for sign in signs}
        self._gaps = [unions(table) for table in _gap_tables(template, self._sets)]
        self._ahead = self._gaps[0][1 << reader.start]

    def has_page(self):
        """Whether some page fills the template, which has no slots."""
        return self._ahead & self._ends != 0

    def first(self):
        """Return the first node of a template with slots."""
        return (0, 0, self._sets.silent(self._ahead))

    def is_live(self, node):
        """Whether some text leads from the language state to a member state."""
        return self._languages[node[0]].is_live(node[1])

    def text_leads(self, node):
        """Return (sign, node) for each sign that leads to a live language state."""
        number, at, bits = node
        ways = live_leads(self._languages[number], at)
        return [(sign, (number, after, self._steps[sign][bits])) for sign, after in ways]

    def slot_leads(self, node):
        """Return the list of the node of the next slot behind a text that ends here, if there is a next slot."""
        number, at, bits = node
        if not self._languages[number].is_member(at) or number + 1 == len(self._languages):
            return []
        return [(number + 1, 0, self._sets.silent(self._gaps[number + 1][bits]))]

    def is_lost(self, node):
        """Whether the text of the last slot can end here, and no page for the texts then does."""
        number, at, bits = node
        if not self._languages[number].is_member(at) or number + 1 < len(self._languages):
            return False
        return not self._gaps[number + 1][bits] & self._ends

    def leads(self, node):
        """Return (sign, node) for all nodes behind, by ascending signs."""
        return [(BETWEEN, after) for after in self.slot_leads(node)] + self.text_leads(node)


def _gap_tables(template, sets):
    """Return, for the parts ahead of each slot and behind the last one, the table from states to sets behind them."""
    reader = template.reader
    unmoved = [1 << state for state in range(len(reader))]
    tables = [unmoved]
    for part in template.parts():
        if part[0] == "slot":
            tables.append(unmoved)
        else:
            lasts = fixed_lasts(reader, sets, part)
            tables[-1] = [joined(lasts, bits) for bits in tables[-1]]
    return tables
