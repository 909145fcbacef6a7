"""The forms of the lines in texts of readers, languages and templates."""

from sealedslots.errors import InvalidText
from sealedslots.languages import MAX_GIVEN_STATES, are_language_signs
from sealedslots.parts import MAX_PARTS, MAX_PIECE_MOVES, MAX_SAID_MARKS
from sealedslots.readers import Reader, is_mark, is_name, is_sign

NOTHING = "-"
DIGITS = "0123456789"
# No number that is asked for has more digits.
MAX_DIGITS = 2


class Lines:
    """The lines of a text that are taken one after another, as lists of words."""

    def __init__(self, text):
        if not isinstance(text, str):
            raise InvalidText(0)
        lines = text.split("\n")
        self._lines = [line.split(" ") for line in lines[:-1]]
        self._rest = lines[-1]
        self._taken = 0

    def following(self):
        """Return the words of the next line, none if there is none that ends with a line feed."""
        return self._lines[self._taken] if self._taken < len(self._lines) else []

    def take(self, has_form):
        """Return the words of the next line; raise InvalidText if there is none, or has_form(words) does not hold."""
        words = self.following()
        if not words or not has_form(words):
            raise InvalidText(self._taken + 1)
        self._taken += 1
        return words

    def finish(self):
        """Raise InvalidText if there is anything behind the lines that were taken."""
        if self._taken < len(self._lines) or self._rest:
            raise InvalidText(self._taken + 1)


def _number_of(word):
    """Return the number that is written without leading zeros, None if the word is none of those that are asked for."""
    if not 1 <= len(word) <= MAX_DIGITS or not all([letter in DIGITS for letter in word]):
        return None
    return None if len(word) > 1 and word[0] == "0" else int(word)


def _is_number_below(word, limit):
    """Whether the word is a number below the limit."""
    number = _number_of(word)
    return number is not None and number < limit


def _is_number_from_one(word, most):
    """Whether the word is a number from 1 to the most."""
    return word != "0" and _is_number_below(word, most + 1)


def is_reader_line(words):
    """Whether the words are the first line of a reader."""
    if len(words) != 3 or words[0] != "reader" or not _is_number_from_one(words[1], Reader.MAX_STATES):
        return False
    return _is_number_below(words[2], int(words[1]))


def is_state_line(words):
    """Whether the words are the line of a state of a reader."""
    return words == ["state"] or words == ["end"]


def is_move_line(words, many):
    """Whether the words are the line of a move of a reader with so many states."""
    if len(words) != 3 or not is_sign(words[0]) or not _is_number_below(words[1], many):
        return False
    return words[2] == NOTHING or is_name(words[2])


def is_language_line(words):
    """Whether the words are the first line of a language."""
    if len(words) != 3 or words[0] != "language" or not are_language_signs(words[1]):
        return False
    return _is_number_from_one(words[2], MAX_GIVEN_STATES)


def is_language_state_line(words, signs, many):
    """Whether the words are the line of a state of a machine with these signs and so many states."""
    if words[0] not in ("state", "member") or len(words) != len(signs) + 1:
        return False
    return all([_is_number_below(word, many) for word in words[1:]])


def is_template_line(words):
    """Whether the words are the first line of a template."""
    return len(words) == 2 and words[0] == "template" and _is_number_from_one(words[1], MAX_PARTS)


def is_part_line(words):
    """Whether the words are the line of a part."""
    if words[0] == "piece":
        return len(words) <= MAX_PIECE_MOVES + 1 and all([_is_piece_move(word) for word in words[1:]])
    if words[0] == "said":
        return len(words) <= MAX_SAID_MARKS + 1 and all([is_mark(word) for word in words[1:]])
    return len(words) == 2 and words[0] == "slot" and is_name(words[1])


def _is_piece_move(word):
    """Whether the word is a sign, or a sign and a mark."""
    sign, equals, mark = word.partition("=")
    return is_sign(sign) and (not equals or is_mark(mark))
