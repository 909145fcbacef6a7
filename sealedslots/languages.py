"""Languages: sets of texts that least machines with a few states decide."""

from sealedslots.errors import InvalidCount, InvalidLanguage, InvalidWord, SignsDiffer
from sealedslots.machines import least_machine, machine_from, machine_of
from sealedslots.readers import is_word
from sealedslots.search import leading_into, least_way
from sealedslots.values import are_states, check_state, has_length, is_below

MAX_SIGNS = 4
MAX_GIVEN_STATES = 40
MAX_MEMBER_SIGNS = 8


def are_language_signs(value):
    """Whether the value is a string of one to four different signs in ascending order."""
    if not is_word(value) or not 1 <= len(value) <= MAX_SIGNS:
        return False
    return list(value) == sorted(set(value))


def is_word_of(value, signs):
    """Whether the value is a word of these signs."""
    return is_word(value) and all([sign in signs for sign in value])


def _check_signs(value):
    """Raise InvalidLanguage if the value is not the signs of a language."""
    if not are_language_signs(value):
        raise InvalidLanguage("signs", None)


def _is_language_state(value, signs, many):
    """Whether the value is a dict from exactly the signs to states of a machine with so many states."""
    if not isinstance(value, dict) or len(value) != len(signs):
        return False
    return all([sign in value and is_below(value[sign], many) for sign in signs])


class Language:
    """A set of texts over one to four signs."""

    MAX_STATES = 6

    def __init__(self, signs, states, member_states):
        _check_signs(signs)
        if not has_length(states, 1, MAX_GIVEN_STATES):
            raise InvalidLanguage("states", None)
        for index, state in enumerate(states):
            if not _is_language_state(state, signs, len(states)):
                raise InvalidLanguage("state", index)
        if not are_states(member_states, len(states)):
            raise InvalidLanguage("members", None)
        least, found = least_machine(signs, states, member_states, self.MAX_STATES)
        self._signs = signs
        self._states = least
        self._members = tuple(found)
        self._live = leading_into(found, len(least), lambda at: list(least[at].items()))

    @classmethod
    def every(cls, signs):
        """Return the language of all texts over the signs."""
        _check_signs(signs)
        return cls(signs, [{sign: 0 for sign in signs}], [0])

    @classmethod
    def of(cls, signs, *texts):
        """Return the language of exactly these texts over the signs."""
        _check_signs(signs)
        for text in texts:
            if not is_word_of(text, signs):
                raise InvalidWord(text)
        tree, ends = machine_of(signs, texts)
        # Many texts have a tree of more states than a Language may be given.
        least, found = least_machine(signs, tree, ends, cls.MAX_STATES)
        return cls(signs, least, found)

    @property
    def signs(self):
        """The signs, in ascending order."""
        return self._signs

    @property
    def is_empty(self):
        """Whether no text belongs to the language."""
        return 0 not in self._live

    def move(self, state, sign):
        """Return the next state, None for a sign that is not one of the language's."""
        check_state(state, len(self._states))
        return self._states[state].get(sign)

    def is_member(self, state):
        """Whether the texts that lead to the state belong to the language."""
        check_state(state, len(self._states))
        return state in self._members

    def is_live(self, state):
        """Whether some text leads from the state to a member state."""
        check_state(state, len(self._states))
        return state in self._live

    def __len__(self):
        return len(self._states)

    def __contains__(self, value):
        if not is_word_of(value, self._signs):
            return False
        state = 0
        for sign in value:
            state = self._states[state][sign]
        return state in self._members

    def __eq__(self, other):
        # The least machine with its numbering is determined by the texts.
        if not isinstance(other, Language):
            return False
        return self._signs == other._signs and self._states == other._states and self._members == other._members

    def __repr__(self):
        return f"Language({self._signs!r}, {self._states!r}, {self._members!r})"


def both(one, other):
    """Return the language of the texts that belong to both languages."""
    return _combined(one, other, lambda first, second: first and second)


def either(one, other):
    """Return the language of the texts that belong to at least one of the languages."""
    return _combined(one, other, lambda first, second: first or second)


def without(one, other):
    """Return the language of the texts that belong to the first language, but not to the second."""
    return _combined(one, other, lambda first, second: first and not second)


def _combined(one, other, belongs):
    """Return the language of the texts for which belongs(in the first, in the second) holds."""
    _check_signs_agree(one, other)

    def is_in(pair):
        first, second = pair
        return belongs(one.is_member(first), other.is_member(second))

    return language_from(one.signs, (0, 0), lambda pair: _next_pairs(one, other, pair), is_in)


def language_from(signs, first, leads, is_in):
    """Return the language of the texts that lead in a graph from the first node to one for which is_in(node) holds.

    Raise TooLarge if there is no such Language; the graph may be of any size.
    """
    states, found = machine_from(first, leads, is_in)
    least, chosen = least_machine(signs, states, found, Language.MAX_STATES)
    return Language(signs, least, chosen)


def _check_signs_agree(one, other):
    """Raise SignsDiffer if the languages do not have the same signs."""
    if one.signs != other.signs:
        raise SignsDiffer(one.signs, other.signs)


def _next_pairs(one, other, pair):
    """Return (sign, next pair) for each sign, from a pair of states of two languages with the same signs."""
    first, second = pair
    return [(sign, (one.move(first, sign), other.move(second, sign))) for sign in one.signs]


def first_outside(one, other):
    """Return the least text of the first language that is not in the second, None if there is none."""
    _check_signs_agree(one, other)

    def is_goal(pair):
        first, second = pair
        return one.is_member(first) and not other.is_member(second)

    return least_way((0, 0), lambda pair: _next_pairs(one, other, pair), is_goal)


def is_within(one, other):
    """Whether each text of the first language belongs to the second."""
    return first_outside(one, other) is None


def least_text(language):
    """Return the least text of the language, None if it has no texts."""
    return least_way(0, lambda state: _language_leads(language, state), lambda node: language.is_member(node))


def _language_leads(language, state):
    """Return (sign, next state) for each sign."""
    return [(sign, language.move(state, sign)) for sign in language.signs]


def members(language, most):
    """Yield the texts of the language with at most so many signs, by their length and then in the order of strings."""
    if not is_below(most, MAX_MEMBER_SIGNS + 1):
        raise InvalidCount(most)
    level = [("", 0)]
    for length in range(most + 1):
        if length > 0:
            level = _longer(language, level)
        for text, state in level:
            if language.is_member(state):
                yield text


def _longer(language, level):
    """Return the beginnings (text, state) that are one sign longer than those of the level, in the order of strings."""
    return [(text + sign, after) for text, state in level for sign, after in live_leads(language, state)]


def live_move(language, state, sign):
    """Return the next state by any sign, None if the sign is not one of the language's, or the state is not live."""
    after = language.move(state, sign)
    if after is None or not language.is_live(after):
        return None
    return after


def live_leads(language, state):
    """Return (sign, next state) for each sign that leads from the state to a live one."""
    return [(sign, after) for sign, after in _language_leads(language, state) if language.is_live(after)]
