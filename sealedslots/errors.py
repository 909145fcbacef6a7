"""The errors of the package.

What an error is about stands in its attributes only: a message that quoted any value at all could fail itself.
"""


class SlotsError(ValueError):
    """An argument is not of the kind or the form that is asked for."""


class InvalidReader(SlotsError):
    """The states, the ends or the start do not make a reader."""

    def __init__(self, problem, place):
        super().__init__("not a reader")
        self.problem = problem
        self.place = place


class InvalidLanguage(SlotsError):
    """The signs, the states or the members do not make a language."""

    def __init__(self, problem, place):
        super().__init__("not a language")
        self.problem = problem
        self.place = place


class InvalidTemplate(SlotsError):
    """The parts do not make a template."""

    def __init__(self, problem, place):
        super().__init__("not a template")
        self.problem = problem
        self.place = place


class InvalidTexts(SlotsError):
    """The texts are not those of the slots of a template."""

    def __init__(self, problem, name):
        super().__init__("not texts for the slots")
        self.problem = problem
        self.name = name


class InvalidState(SlotsError):
    """The value is not a state."""

    def __init__(self, value):
        super().__init__("not a state")
        self.value = value


class InvalidStates(SlotsError):
    """The value is not a list or a tuple of different states."""

    def __init__(self, value):
        super().__init__("not a list or a tuple of different states")
        self.value = value


class InvalidWord(SlotsError):
    """The value is not a word."""

    def __init__(self, value):
        super().__init__("not a word")
        self.value = value


class InvalidRow(SlotsError):
    """The value is not a tuple of names."""

    def __init__(self, value):
        super().__init__("not a row")
        self.value = value


class InvalidSigns(SlotsError):
    """The value is not a string of signs as it is asked for."""

    def __init__(self, value):
        super().__init__("not such signs")
        self.value = value


class InvalidCount(SlotsError):
    """The value is not a count, or too large a one."""

    def __init__(self, value):
        super().__init__("not such a count")
        self.value = value


class InvalidLookAhead(SlotsError):
    """The value is not a look-ahead."""

    def __init__(self, value):
        super().__init__("not a look-ahead")
        self.value = value


class InvalidVector(SlotsError):
    """The value is not a vector of the template."""

    def __init__(self, value):
        super().__init__("not a vector of the template")
        self.value = value


class InvalidWriter(SlotsError):
    """The opening, the moves or the endings do not make a writer."""

    def __init__(self, problem, place):
        super().__init__("not a writer")
        self.problem = problem
        self.place = place


class InvalidRegimes(SlotsError):
    """The regimes are not those of the slots of a template."""

    def __init__(self, problem, name):
        super().__init__("not regimes for the slots")
        self.problem = problem
        self.name = name


class InvalidKinds(SlotsError):
    """The kinds are not a few different languages with entries."""

    def __init__(self, place):
        super().__init__("not kinds of slots")
        self.place = place


class InvalidParts(SlotsError):
    """The parts do not make a row of parts for the kinds."""

    def __init__(self, problem, place):
        super().__init__("not a row of parts")
        self.problem = problem
        self.place = place


class InvalidTemplates(SlotsError):
    """The value is not a few templates."""

    def __init__(self, problem, place):
        super().__init__("not a few templates")
        self.problem = problem
        self.place = place


class InvalidText(SlotsError):
    """The text does not have its form."""

    def __init__(self, line):
        super().__init__("not a text of the form that is asked for")
        self.line = line


class InvalidCommand(SlotsError):
    """The value is not a command."""

    def __init__(self, value):
        super().__init__("not a command")
        self.value = value


class UnknownSlot(LookupError):
    """The template has no slot of this name."""

    def __init__(self, name):
        super().__init__("no slot of this name")
        self.name = name


class UnknownName(LookupError):
    """The name does not stand for such a thing."""

    def __init__(self, name):
        super().__init__("no such thing of this name")
        self.name = name


class Unreadable(RuntimeError):
    """The word has no reading."""

    def __init__(self, place):
        super().__init__("the page cannot be read")
        self.place = place


class SignsDiffer(RuntimeError):
    """The signs of the two do not fit together."""

    def __init__(self, one, other):
        super().__init__("the signs are different")
        self.one = one
        self.other = other


class ReadersDiffer(RuntimeError):
    """The readers are not equal."""

    def __init__(self, place):
        super().__init__("the readers are different")
        self.place = place


class NotSealed(RuntimeError):
    """The template is not sealed."""

    def __init__(self, vector):
        super().__init__("the template is not sealed")
        self.vector = vector


class NotWritten(RuntimeError):
    """The door is not written with this look-ahead."""

    def __init__(self, look_ahead):
        super().__init__("the door is not written with this look-ahead")
        self.look_ahead = look_ahead


class NotMember(RuntimeError):
    """The word does not belong to the language, or begins no text of it."""

    def __init__(self, word):
        super().__init__("not a text of the language")
        self.word = word


class Finished(RuntimeError):
    """The text or the page is already complete."""

    def __init__(self, word):
        super().__init__("already finished")
        self.word = word


class Unfaithful(RuntimeError):
    """The writer fails for a text of the language."""

    def __init__(self, word, problem):
        super().__init__("the writer fails for a text")
        self.word = word
        self.problem = problem


class NotFilled(RuntimeError):
    """The page does not fill the template."""

    def __init__(self, word):
        super().__init__("the page does not fill the template")
        self.word = word


class NoWay(RuntimeError):
    """There is no document as it is asked for."""

    def __init__(self, name):
        super().__init__("there is no such document")
        self.name = name


class NotApart(RuntimeError):
    """Some page fills both templates."""

    def __init__(self, one, other, word):
        super().__init__("some page fills both templates")
        self.one = one
        self.other = other
        self.word = word


class NameTaken(RuntimeError):
    """The name already stands for something."""

    def __init__(self, name):
        super().__init__("the name already stands for something")
        self.name = name


class NothingToUndo(RuntimeError):
    """No command is left that can be undone."""

    def __init__(self):
        super().__init__("there is nothing to undo")


class RunFailed(RuntimeError):
    """A command of a run raised an error."""

    def __init__(self, position, results):
        super().__init__("a command of the run failed")
        self.position = position
        self.results = results


class TooLarge(ArithmeticError):
    """Something would have more parts than its limit."""

    def __init__(self, kind, limit):
        super().__init__("there would be too many")
        self.kind = kind
        self.limit = limit
