"""Slow ways to compute what look-aheads promise, without the program. Readers and machines are as in samples."""

from tests.slow import first_unwritable, last_set, least_numbers, part_ends


class Game:
    """The places of a door for a look-ahead, as [18] to [20] say it; the language has the numbers of its least machine."""

    def __init__(self, states, state, behind, machine, look_ahead):
        signs, lang, found = machine
        numbers, self.live = least_numbers(machine)
        self.states, self.behind, self.signs, self.look_ahead = states, set(behind), sorted(signs), look_ahead
        some = {number: at for at, number in numbers.items()}
        self.moves = {number: {sign: numbers[lang[at][sign]] for sign in signs} for number, at in some.items()}
        self.members = {number for number, at in some.items() if at in found}
        self.start = (0, "", state)
        self.met = self.met_places()
        self.fallen = self.fallen_places()
        self.safe = self.met - set(self.fallen)

    def signs_on(self, at):
        return [sign for sign in self.signs if self.moves[at][sign] in self.live]

    def following(self, place, sign):
        at, held, state = place
        if sign not in self.signs_on(at):
            return []
        after = self.moves[at][sign]
        if len(held) < self.look_ahead:
            return [(after, held + sign, state)]
        arrived = held + sign
        return sorted((after, arrived[1:], last) for last in last_set(self.states, state, arrived[0]))

    def met_places(self):
        met = {self.start} if 0 in self.live else set()
        waiting = list(met)
        while waiting:
            place = waiting.pop()
            for sign in self.signs:
                for after in self.following(place, sign):
                    if after not in met:
                        met.add(after)
                        waiting.append(after)
        return met

    def can_end(self, place):
        at, held, state = place
        return at not in self.members or bool(last_set(self.states, state, held) & self.behind)

    def fallen_places(self):
        """The dict from the places that fall to (turn, reason)."""
        fallen, turn = {}, 0
        while True:
            turn += 1
            now = {}
            for place in self.met - set(fallen):
                if turn == 1 and not self.can_end(place):
                    now[place] = (1, None)
                    continue
                for sign in self.signs_on(place[0]):
                    if all(after in fallen for after in self.following(place, sign)):
                        now[place] = (turn, sign)
                        break
            if not now:
                return fallen
            fallen.update(now)

    def is_written(self):
        return 0 not in self.live or self.start in self.safe

    def choices(self, tables):
        """The choices; tables has, for each state, the first short word for each (row, last state). None: not known."""
        found = {}
        for place in sorted(self.safe):
            at, held, state = place
            for sign in self.signs_on(at) if len(held) == self.look_ahead else []:
                known = []
                for after in self.following(place, sign):
                    word = tables[state].get((((held + sign)[0],), after[2]))
                    if word is None:
                        return None
                    if after in self.safe:
                        known.append((len(word), word, after[2]))
                found[(at, held, state, sign)] = min(known)[2]
        return found

    def is_choices(self, value):
        """[19] for dicts whose keys and values have the right form."""
        if 0 not in self.live:
            return True
        met, waiting = {self.start}, [self.start]
        while waiting:
            place = waiting.pop()
            if not self.can_end(place):
                return False
            at, held, state = place
            for sign in self.signs_on(at):
                places = self.following(place, sign)
                if len(held) == self.look_ahead:
                    places = [after for after in places if after[2] == value.get((at, held, state, sign))]
                if not places:
                    return False
                for after in places:
                    if after not in met:
                        met.add(after)
                        waiting.append(after)
        return True

    def is_fall(self, value):
        """[20] for lists of tuples of the right form."""
        if not any((at, held, state) == self.start for at, held, state, _, _ in value):
            return False
        for at, held, state, turn, reason in value:
            place = (at, held, state)
            if reason is None:
                if self.can_end(place):
                    return False
                continue
            if reason not in self.signs_on(at):
                return False
            for after in self.following(place, reason):
                if not any((one, two, three) == after and earlier < turn for one, two, three, earlier, _ in value):
                    return False
        return True


def is_written_slowly(states, state, behind, texts, look_ahead):
    """[17] for a finite language: whether a writer with the look-ahead writes each of the texts, by trying all."""
    def wins(arrived, held, here):
        if arrived in texts and not last_set(states, here, held) & set(behind):
            return False
        for sign in {text[len(arrived)] for text in texts if text.startswith(arrived) and text != arrived}:
            more = held + sign
            if len(held) < look_ahead:
                if not wins(arrived + sign, more, here):
                    return False
            elif not any(wins(arrived + sign, more[1:], last) for last in last_set(states, here, more[0])):
                return False
        return True

    return not texts or wins("", "", state)


def is_written(states, state, behind, machine, entry):
    if entry == 4:
        return first_unwritable(states, state, behind, machine) is None
    return Game(states, state, behind, machine, entry).is_written()


def sets_under(spec, parts, machines, vector, known):
    """The sets ahead under the vector; known keeps what was computed for the same template."""
    states, ends, _ = spec
    found, entries = [tuple(sorted(ends))], list(vector)
    for part in reversed(parts):
        if part[0] == "slot":
            key = (part[1], entries.pop(), found[-1])
            if key not in known:
                known[key] = tuple(state for state in range(len(states))
                                   if is_written(states, state, key[2], machines[part[1]], key[1]))
            found.append(known[key])
        else:
            found.append(tuple(state for state in range(len(states)) if part_ends(states, part, state) & set(found[-1])))
    return found[::-1]
