"""What several tests share that does use the program."""

import itertools
import unittest

from sealedslots.readers import Reader
from tests.samples import OTHER_VALUES

NOT_WORDS = [value for value in OTHER_VALUES + [1, "pQ"] if value != ""]
NOT_ROWS = [value for value in OTHER_VALUES if value not in ((), ("a",))] + ["", "a", ("a", ""), ["begin"], ("a", True)]


def made(spec):
    """The reader of a tuple as samples has them."""
    return Reader(spec[0], spec[1], start=spec[2])


def subsets(many):
    """All sets of states, of so many, as sorted tuples."""
    return [chosen for size in range(many + 1) for chosen in itertools.combinations(range(many), size)]


def no_states(many):
    """Values that are no state of something with so many states."""
    return OTHER_VALUES + [many, str(many - 1), [0], (1,)]


def no_sets(many):
    """Values that are no list and no tuple of different states of something with so many states."""
    return [value for value in OTHER_VALUES if value not in ([], ())] + [
        0, "01", [many], (0, many), [0, 0], (1, 2, 1), [True], (0, True), [False], [-1], [None], [[0]], ({},), {0: True},
        {0, 1}, range(2)]


def no_look_aheads(most):
    """Values that are no integer from 0 to the most."""
    return OTHER_VALUES + [most + 1, most + 2, -2, "0", "1", str(most), "", [0], (0,), {0: 1}, {0}, [most]]


class Case(unittest.TestCase):
    def fails(self, error, value, call):
        """The call raises the error, which has this very value."""
        with self.assertRaises(error) as caught:
            call()
        self.assertIs(caught.exception.value, value)
