"""Pages that are written part by part into the sets ahead."""

from sealedslots.errors import NotSealed
from sealedslots.pages import passed
from sealedslots.ways import least_told


def fixed_word(reader, part, state, behind):
    """Return the word of the piece, or the least word that fits the said part and leads into the states behind."""
    if part[0] == "piece":
        return "".join([sign for sign, _ in part[1]])
    return least_told(reader, state, part[1], behind)


def written_words(template, sets, slot_word):
    """Return the list of the words of the parts; each leads into the set ahead of the next part.

    slot_word(part, state, states behind) is the word of a slot.
    """
    reader = template.reader
    state = reader.start
    words = []
    for index, part in enumerate(template.parts()):
        if part[0] == "slot":
            word = slot_word(part, state, sets[index + 1])
        else:
            word = fixed_word(reader, part, state, sets[index + 1])
        _, state = passed(reader, state, word)
        words.append(word)
    return words


def plain_words(template, sets, texts):
    """Return the words of the parts that are written with these sets ahead, each slot with its whole text at once.

    Raise NotSealed if the first of the sets does not contain the start.
    """
    reader = template.reader
    if reader.start not in sets[0]:
        raise NotSealed(None)

    def slot_word(part, state, behind):
        return least_told(reader, state, texts[part[1]], behind)

    return written_words(template, sets, slot_word)
