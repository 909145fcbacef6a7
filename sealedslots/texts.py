"""Readers, languages and templates as texts, and back."""

from sealedslots.languages import Language
from sealedslots.lines import (NOTHING, Lines, is_language_line, is_language_state_line, is_move_line, is_part_line,
                               is_reader_line, is_state_line, is_template_line)
from sealedslots.readers import Reader
from sealedslots.templates import Template


def _text_of(lines):
    """Return the text of the lines, which are lists of words."""
    return "".join([" ".join(words) + "\n" for words in lines])


def reader_text(reader):
    """Return the text of the reader."""
    return _text_of(_reader_lines(reader))


def _reader_lines(reader):
    """Return the lines of the reader."""
    lines = [["reader", str(len(reader)), str(reader.start)]]
    for state in range(len(reader)):
        lines.append(["end" if state in reader.ends() else "state"])
        for sign, after, told in reader.moves(state):
            lines.append([sign, str(after), NOTHING if told is None else told])
    return lines


def language_text(language):
    """Return the text of the least machine of the language."""
    return _text_of(_language_lines(language))


def _language_lines(language):
    """Return the lines of the language."""
    lines = [["language", language.signs, str(len(language))]]
    for state in range(len(language)):
        following = [str(language.move(state, sign)) for sign in language.signs]
        lines.append(["member" if language.is_member(state) else "state"] + following)
    return lines


def template_text(template):
    """Return the text of the template."""
    lines = [["template", str(len(template))]] + _reader_lines(template.reader)
    for part in template.parts():
        lines.extend(_part_lines(part))
    return _text_of(lines)


def _part_lines(part):
    """Return the lines of the part."""
    if part[0] == "piece":
        return [["piece"] + [sign if told is None else sign + "=" + told for sign, told in part[1]]]
    if part[0] == "said":
        return [["said"] + list(part[1])]
    return [["slot", part[1]]] + _language_lines(part[2])


def parse_reader(text):
    """Return the reader of which the value is the text."""
    lines = Lines(text)
    states, ends, start = _taken_reader(lines)
    lines.finish()
    return Reader(states, ends, start=start)


def _taken_reader(lines):
    """Take the lines of a reader; return its states, ends and start."""
    _, many, start = lines.take(is_reader_line)
    states = []
    ends = []
    for state in range(int(many)):
        if lines.take(is_state_line) == ["end"]:
            ends.append(state)
        states.append(_taken_moves(lines, int(many)))
    return (states, ends, int(start))


def _taken_moves(lines, many):
    """Take the lines of moves by ascending signs; return the dict of the moves."""
    moves = {}
    last = ""
    words = lines.following()
    # Any other line is left: it is wrong unless it may stand behind the moves.
    while is_move_line(words, many) and words[0] > last:
        last, after, told = lines.take(lambda line: True)
        moves[last] = (int(after), None if told == NOTHING else told)
        words = lines.following()
    return moves


def parse_language(text):
    """Return the language of which the value is the text of a machine."""
    lines = Lines(text)
    signs, states, found = _taken_language(lines)
    lines.finish()
    return Language(signs, states, found)


def _taken_language(lines):
    """Take the lines of a language; return its signs, states and member states."""
    _, signs, number = lines.take(is_language_line)
    many = int(number)
    states = []
    found = []
    for state in range(many):
        word, *following = lines.take(lambda words: is_language_state_line(words, signs, many))
        if word == "member":
            found.append(state)
        states.append({sign: int(after) for sign, after in zip(signs, following)})
    return (signs, states, found)


def parse_template(text):
    """Return the template of which the value is the text."""
    lines = Lines(text)
    _, many = lines.take(is_template_line)
    states, ends, start = _taken_reader(lines)
    taken = [_taken_part(lines) for _ in range(int(many))]
    lines.finish()
    # Only now are the things made: a line that does not have its form comes before all their errors.
    reader = Reader(states, ends, start=start)
    return Template(reader, [_part_of(words, machine) for words, machine in taken])


def _taken_part(lines):
    """Take the lines of a part; return the words of its first line, and the machine of its language if it is a slot."""
    words = lines.take(is_part_line)
    return (words, _taken_language(lines) if words[0] == "slot" else None)


def _part_of(words, machine):
    """Return the part of the words and the machine."""
    if words[0] == "slot":
        signs, states, found = machine
        return ("slot", words[1], Language(signs, states, found))
    if words[0] == "said":
        return ("said", tuple(words[1:]))
    return ("piece", tuple([_piece_move(word) for word in words[1:]]))


def _piece_move(word):
    """Return the move of a piece that the word is."""
    sign, equals, mark = word.partition("=")
    return (sign, mark if equals else None)
