"""[22] Writers of doors: compared with slow writers that move to the safe place whose word is least."""

import random
import unittest

from sealedslots.doors import Door
from sealedslots.errors import Finished, InvalidLookAhead, InvalidWord, NotMember, NotWritten
from sealedslots.games import choices, is_written_with
from sealedslots.languages import Language
from sealedslots.pages import passed
from sealedslots.readers import Reader
from sealedslots.writers import SlotWriter
from sealedslots.writings import least_writing
from tests.cases import Case, no_look_aheads
from tests.door_samples import FAR, FOURTH, LACKING, NONE, door_of, guessing_doors, small_doors
from tests.samples import OTHER_VALUES, accepts, words
from tests.slow import rows_of_words
from tests.slow_games import Game

NO_SIGNS = OTHER_VALUES + ["", "ab", "go", 0, ["a", "b"]]


def some_doors(seed, count):
    for door in small_doors(seed, count, told=(None, "a", "a", "a", "b", "b", "b"), density=0.9, page_signs="pqrs"):
        yield door
    for door in guessing_doors(seed, 12 * count):
        yield door


def least_in(table, row, lasts):
    """The least word that tells the row and leads into the states, of the short ones of the table."""
    known = [word for (told, last), word in table.items() if told == tuple(row) and last in lasts]
    return min(known, key=lambda word: (len(word), word)) if known else None


def slow_words(game, tables, text):
    """The words that a writer writes for the text, sign by sign and at the end; None if one is not among the short ones."""
    place, found = game.start, []
    for sign in text:
        if len(place[1]) < game.look_ahead:
            found.append("")
            place = game.following(place, sign)[0]
            continue
        oldest = (place[1] + sign)[0]
        places = {after[2]: after for after in game.following(place, sign) if after in game.safe}
        word = least_in(tables[place[2]], oldest, places)
        if word is None:
            return None
        found.append(word)
        place = places[[last for (told, last), known in tables[place[2]].items() if known == word][0]]
    return found + [least_in(tables[place[2]], place[1], game.behind)]


class SlowTest(Case):
    def check(self, door, look_ahead, text, wanted):
        """Feed the text; the words must be the wanted ones, and the properties must fit behind each."""
        writer = SlotWriter(door, look_ahead)
        page, held = "", ""
        for arrived, sign in enumerate(text, 1):
            self.assertEqual(writer.feed(sign), wanted[arrived - 1])
            page += wanted[arrived - 1]
            held = text[max(arrived - look_ahead, 0):arrived] if look_ahead < 4 else text[:arrived]
            row, last = passed(door.reader, door.state, page)
            self.assertEqual((writer.text, writer.held, writer.page), (text[:arrived], held, page))
            self.assertEqual((writer.state, writer.is_finished), (last, False))
            self.assertEqual("".join(row) + held, text[:arrived])
        self.assertEqual(writer.finish(), wanted[-1])
        row, last = passed(door.reader, door.state, page + wanted[-1])
        self.assertEqual("".join(row), text)
        self.assertIn(last, door.behind)
        self.assertEqual((writer.text, writer.held, writer.page), (text, "", page + wanted[-1]))
        self.assertEqual((writer.state, writer.is_finished), (last, True))

    def test_slow_writers(self):
        counts = {0: 0, 1: 0, 2: 0, 3: 0, 4: 0}
        for spec, state, behind, machine in some_doors(161, 25):
            door = door_of(spec, state, behind, machine)
            signs = sorted({sign for moves in spec[0] for sign in moves})
            tables = rows_of_words(spec[0], signs, 4 if len(signs) < 5 else 3)
            texts = [text for text in words("ab", 4) if accepts(machine, text)][:12]
            for look_ahead in range(5):
                if not is_written_with(door, look_ahead):
                    with self.assertRaises(NotWritten) as caught:
                        SlotWriter(door, look_ahead)
                    self.assertEqual(caught.exception.look_ahead, look_ahead)
                    continue
                game = Game(spec[0], state, behind, machine, look_ahead) if look_ahead < 4 else None
                for text in texts:
                    if game is None:
                        wanted = [""] * len(text) + [least_writing(door, text)]
                    else:
                        wanted = slow_words(game, tables, text)
                    if wanted is not None and wanted[-1] is not None:
                        self.check(door, look_ahead, text, wanted)
                        counts[look_ahead] += 1
        self.assertGreater(min(counts.values()), 300, counts)

    def test_choices_are_followed(self):
        for look_ahead, door in [(3, FOURTH), (4, FOURTH), (4, FAR)]:
            found = choices(door, look_ahead) if look_ahead < 4 else None
            for text in ["aaaa", "aaab"] if door is FOURTH else ["a", "aa", "ab", "aaaaab", "aaaaaa"]:
                writer = SlotWriter(door, look_ahead)
                at = 0
                for sign in text:
                    held, state = writer.held, writer.state
                    writer.feed(sign)
                    if found is not None and len(held) == look_ahead:
                        self.assertEqual(writer.state, found[(at, held, state, sign)])
                    at = door.language.move(at, sign)
                writer.finish()
                self.assertEqual("".join(passed(door.reader, 0, writer.page)[0]), text)

    def test_long_texts(self):
        for look_ahead in range(5):
            reader = Reader([{"p": (0, "a"), "q": (1, "b"), "r": (1, None)}, {"p": (1, "a"), "q": (1, "b"), "s": (0, None)}])
            writer = SlotWriter(Door(reader, 0, [0], Language.every("ab")), look_ahead)
            text = "ab" * 30
            told = "".join([writer.feed(sign) for sign in text]) + writer.finish()
            self.assertEqual((told, writer.page, writer.text), ("p" + "qp" * 29 + "qs", told, text))
            self.assertEqual("".join(passed(reader, 0, told)[0]), text)
        writer = SlotWriter(FAR)
        for sign in "a" * 59 + "b":
            self.assertEqual(writer.feed(sign), "")
        self.assertEqual(writer.finish(), "q" + "p" * 58 + "q")


class ExamplesTest(Case):
    def test_the_word_decides(self):
        # To 2 leads p, to 1 leads q: the state 1 is less, but the word p is.
        reader = Reader([{"p": (2, "a"), "q": (1, "a")}, {"p": (1, "a")}, {"p": (2, "a")}])
        writer = SlotWriter(Door(reader, 0, [0, 1, 2], Language.every("a")), 0)
        self.assertEqual((writer.feed("a"), writer.state, writer.page), ("p", 2, "p"))
        # From 2 no text ends: the word q is taken.
        writer = SlotWriter(Door(reader, 0, [0, 1], Language.every("a")), 0)
        self.assertEqual((writer.feed("a"), writer.state, writer.page), ("q", 1, "q"))
        # A shorter word is less than an earlier one.
        reader = Reader([{"p": (1, None), "q": (2, "a")}, {"p": (3, "a")}, {"p": (2, "a")}, {"p": (3, "a")}])
        writer = SlotWriter(Door(reader, 0, [0, 2, 3], Language.every("a")), 0)
        self.assertEqual((writer.feed("a"), writer.state), ("q", 2))

    def test_silent_moves_at_the_end(self):
        reader = Reader([{"p": (1, "a")}, {"p": (0, None), "q": (2, None)}, {}])
        writer = SlotWriter(door=Door(reader, 0, [2], Language.of("a", "a")), look_ahead=0)
        self.assertEqual((writer.feed(sign="a"), writer.state), ("p", 1))
        self.assertEqual((writer.finish(), writer.state, writer.page), ("q", 2, "pq"))
        early = SlotWriter(Door(reader, 0, [2], Language.of("a", "a")), 1)
        self.assertEqual((early.feed("a"), early.held, early.state), ("", "a", 0))
        self.assertEqual((early.finish(), early.held, early.state), ("pq", "", 2))

    def test_whole_is_the_default(self):
        writer = SlotWriter(FAR)
        self.assertEqual((writer.text, writer.held, writer.page, writer.state, writer.is_finished), ("", "", "", 0, False))
        self.assertEqual([writer.feed("a"), writer.feed("a"), writer.held, writer.page, writer.state], ["", "", "aa", "", 0])
        self.assertEqual((writer.finish(), writer.text, writer.held, writer.page, writer.state), ("pp", "aa", "", "pp", 1))
        self.assertIs(writer.is_finished, True)
        for look_ahead in range(4):
            with self.assertRaises(NotWritten):
                SlotWriter(FAR, look_ahead)

    def test_languages_without_texts(self):
        for look_ahead in range(5):
            writer = SlotWriter(Door(Reader([{"p": (0, "a")}]), 0, [0], Language(*NONE)), look_ahead)
            for call, word in [(lambda: writer.feed("a"), "a"), (writer.finish, "")]:
                with self.assertRaises(NotMember) as caught:
                    call()
                self.assertEqual(caught.exception.word, word)


class ErrorsTest(Case):
    def state_of(self, writer):
        return writer.text, writer.held, writer.page, writer.state, writer.is_finished

    def unchanged(self, error, writer, call):
        before = self.state_of(writer)
        with self.assertRaises(error) as caught:
            call()
        self.assertEqual(self.state_of(writer), before)
        return caught.exception

    def test_making(self):
        for door in [FOURTH, LACKING]:
            for value in no_look_aheads(4):
                self.fails(InvalidLookAhead, value, lambda: SlotWriter(door, value))
        for look_ahead in range(5):
            with self.assertRaises(NotWritten) as caught:
                SlotWriter(LACKING, look_ahead)
            self.assertEqual(caught.exception.look_ahead, look_ahead)
        with self.assertRaises(NotWritten) as caught:
            SlotWriter(LACKING)
        self.assertEqual(caught.exception.look_ahead, 4)

    def test_feeding(self):
        for look_ahead, door in [(3, FOURTH), (4, FOURTH)]:
            writer = SlotWriter(door, look_ahead)
            for value in NO_SIGNS:
                self.assertIs(self.unchanged(InvalidWord, writer, lambda: writer.feed(value)).value, value)
            for sign in "bz":
                self.assertEqual(self.unchanged(NotMember, writer, lambda: writer.feed(sign)).word, sign)
            self.assertEqual(self.unchanged(NotMember, writer, writer.finish).word, "")
            for sign in "aaa":
                writer.feed(sign)
            self.assertEqual(self.unchanged(NotMember, writer, writer.finish).word, "aaa")
            self.assertEqual(self.unchanged(NotMember, writer, lambda: writer.feed("c")).word, "aaac")
            writer.feed("b")
            for sign in "abz":
                self.assertEqual(self.unchanged(NotMember, writer, lambda: writer.feed(sign)).word, "aaab" + sign)
            self.assertEqual((writer.finish() or writer.page)[-1:], "p")
            for call in [writer.finish, lambda: writer.feed("a"), lambda: writer.feed("z")]:
                self.assertEqual(self.unchanged(Finished, writer, call).word, "qppp")
            for value in NO_SIGNS:
                self.assertIs(self.unchanged(InvalidWord, writer, lambda: writer.feed(value)).value, value)

    def test_clones(self):
        rng = random.Random(162)
        for look_ahead, door, texts in [(3, FOURTH, ["aaaa", "aaab"]), (4, FAR, ["ab", "aa", "aaab"]), (4, FOURTH, ["aaab"])]:
            for text in texts:
                alone = SlotWriter(door, look_ahead)
                wanted = [alone.feed(sign) for sign in text] + [alone.finish()]
                for place in range(len(text) + 1):
                    writer = SlotWriter(door, look_ahead)
                    found = [writer.feed(sign) for sign in text[:place]]
                    copy = writer.clone()
                    self.assertIs(type(copy), SlotWriter)
                    self.assertEqual(self.state_of(copy), self.state_of(writer))
                    before = self.state_of(writer)
                    first, second = (copy, writer) if rng.random() < 0.5 else (writer, copy)
                    rest = [first.feed(sign) for sign in text[place:]] + [first.finish()]
                    self.assertEqual(found + rest, wanted)
                    self.assertEqual(self.state_of(second), before)
                    self.assertEqual(found + [second.feed(sign) for sign in text[place:]] + [second.finish()], wanted)
                    done = first.clone()
                    self.assertEqual(self.state_of(done), self.state_of(first))
                    self.assertRaises(Finished, done.finish)

    def test_writers_do_not_disturb_each_other(self):
        one, other = SlotWriter(FOURTH, 3), SlotWriter(FOURTH, 3)
        for sign in "aaa":
            one.feed(sign)
        self.assertEqual(self.state_of(other), ("", "", "", 0, False))
        self.assertEqual((FOURTH.state, FOURTH.behind), (0, (7,)))


if __name__ == "__main__":
    unittest.main()
