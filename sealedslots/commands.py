"""The forms of the commands of a workshop, and of what they return."""

from sealedslots.errors import InvalidCommand
from sealedslots.lines import NOTHING
from sealedslots.readers import is_name, is_word

EMPTY_LIST = "."


def command_words(value):
    """Return (words of the first line, text of the further lines) of the command.

    Raise InvalidCommand if the value is not a command.
    """
    if not isinstance(value, str):
        raise InvalidCommand(value)
    line, feed, text = value.partition("\n")
    words = line.split(" ")
    if not _is_command(words) or (feed != "") != (words[0] == "define"):
        raise InvalidCommand(value)
    return (words, text)


def _is_command(words):
    """Whether the words are those of the first line of a command."""
    if words[0] == "write":
        return len(words) > 2 and _are_names(words[1:3]) and all([_is_assignment(word) for word in words[3:]])
    if words[0] == "change":
        return len(words) == 3 and is_name(words[1]) and _is_assignment(words[2])
    if words[0] == "read":
        return len(words) == 3 and is_name(words[1]) and _is_text(words[2])
    if words[0] in ("undo", "names"):
        return len(words) == 1
    if words[0] in ("define", "drop", "show", "texts", "sealed", "vectors", "least"):
        return len(words) == 2 and is_name(words[1])
    return False


def _are_names(words):
    """Whether all of the words are names."""
    return all([is_name(word) for word in words])


def _is_text(word):
    """Whether the word stands for a text or a page."""
    return word == NOTHING or (word != "" and is_word(word))


def _is_assignment(word):
    """Whether the word has the form SLOT=TEXT."""
    slot, _, text = word.partition("=")
    return is_name(slot) and _is_text(text)


def text_of_word(word):
    """Return the text or the page for which the word stands."""
    return "" if word == NOTHING else word


def assignment(word):
    """Return (slot, text) of a word SLOT=TEXT."""
    slot, _, text = word.partition("=")
    return (slot, text_of_word(text))


def word_of_text(text):
    """Return the word that stands for the text or the page."""
    return text if text else NOTHING


def listed(words):
    """Return the words, separated by spaces."""
    return " ".join(words) if words else EMPTY_LIST
