"""A slow way to find the fault of a text, without the program: line by line, by patterns."""

import re

NUMBER = "(0|[1-9][0-9]*)"
NAME = "[a-z]{1,8}"


class Wrong(Exception):
    """The line with this number is the fault."""


class SlowLines:
    def __init__(self, text):
        if not isinstance(text, str):
            raise Wrong(0)
        self.lines = re.findall("[^\n]*\n|[^\n]+", text)
        self.at = 0

    def matches(self, pattern):
        return self.at < len(self.lines) and re.fullmatch(pattern + "\n", self.lines[self.at])

    def take(self, pattern, is_right=lambda *groups: True):
        found = self.matches(pattern)
        if not found or not is_right(*found.groups()):
            raise Wrong(self.at + 1)
        self.at += 1
        return found.groups()

    def finish(self):
        if self.at < len(self.lines):
            raise Wrong(self.at + 1)


def take_reader(lines):
    many, start = lines.take(f"reader {NUMBER} {NUMBER}", lambda many, start: 1 <= int(many) <= 12 and int(start) < int(many))
    states, ends = [], []
    for state in range(int(many)):
        if lines.take("(state|end)")[0] == "end":
            ends.append(state)
        moves, move = {}, f"([a-z]) {NUMBER} (-|{NAME})"
        while lines.matches(move):
            sign, after, told = lines.matches(move).groups()
            if int(after) >= int(many) or any(sign <= known for known in moves):
                break
            lines.at += 1
            moves[sign] = int(after), None if told == "-" else told
        states.append(moves)
    return states, ends, int(start)


def take_language(lines):
    signs, many = lines.take(f"language ([a-z]{{1,4}}) {NUMBER}", lambda signs, many: (
        all(one < other for one, other in zip(signs, signs[1:])) and 1 <= int(many) <= 40))
    states, members = [], []
    for state in range(int(many)):
        word, rest = lines.take(f"(state|member)((?: {NUMBER}){{{len(signs)}}})".replace("(0|", "(?:0|"), lambda word, rest: (
            all(int(after) < int(many) for after in rest.split())))
        if word == "member":
            members.append(state)
        states.append(dict(zip(signs, map(int, rest.split()))))
    return signs, states, members


def take_part(lines):
    found = lines.matches("piece((?: [a-z](?:=[a-z]{2,8})?){0,12})")
    if found:
        lines.at += 1
        return ("piece", tuple((word[0], word[2:] or None) for word in found.group(1).split()))
    found = lines.matches("said((?: [a-z]{2,8}){0,6})")
    if found:
        lines.at += 1
        return ("said", tuple(found.group(1).split()))
    name, = lines.take(f"slot ({NAME})")
    return ("slot", name, take_language(lines))


def take_template(lines):
    many, = lines.take(f"template {NUMBER}", lambda many: 1 <= int(many) <= 12)
    reader = take_reader(lines)
    return reader, [take_part(lines) for _ in range(int(many))]


TAKERS = {"reader": take_reader, "language": take_language, "template": take_template}


def parsed(kind, text):
    """(the fault, or None; what the text says, or None)."""
    try:
        lines = SlowLines(text)
        found = TAKERS[kind](lines)
        lines.finish()
        return None, found
    except Wrong as wrong:
        return wrong.args[0], None
