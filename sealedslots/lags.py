"""Lags of given writers: which signs are owed, or told ahead, where texts lead."""

from sealedslots.given import check_faithful, faithful_runs, is_faithful
from sealedslots.readers import is_word
from sealedslots.runs import Runs
from sealedslots.values import is_below


def lags(door, writer):
    """Return the dict from (language state, writer state, state) to (owed, ahead), None if it is not faithful."""
    if not is_faithful(door, writer):
        return None
    return {run[:3]: run[3:] for run in sorted(faithful_runs(door, writer))}


def is_lags(door, writer, value):
    """Whether the value is lags of the writer at the door."""
    if not isinstance(value, dict):
        return False
    if not all([_is_lag(door, writer, triple, lag) for triple, lag in value.items()]):
        return False
    if door.language.is_empty:
        return True
    runs = Runs(door, writer, door.language.signs)
    if not _has_run(value, runs.first()):
        return False
    return all([_goes_on(runs, value, triple + lag) for triple, lag in value.items()])


def _is_lag(door, writer, triple, lag):
    """Whether the key has the form (live language state, writer state, state), and the value that of a lag."""
    if not isinstance(triple, tuple) or not isinstance(lag, tuple) or len(triple) != 3 or len(lag) != 2:
        return False
    at, here, state = triple
    if not is_below(at, len(door.language)) or not door.language.is_live(at):
        return False
    if not is_below(here, len(writer)) or not is_below(state, len(door.reader)):
        return False
    return is_word(lag[0]) and is_word(lag[1]) and "" in lag


def _has_run(value, run):
    """Whether the lags have the triple of the run with its lag."""
    return value.get(run[:3]) == run[3:]


def _goes_on(runs, value, run):
    """Whether the lags have all runs behind the run, and no text that ends here fails."""
    return not runs.is_failing(run) and all([_has_run(value, after) for _, after in runs.ways(run)])


def greatest_lag(door, writer):
    """Return the lengths of the longest word that is owed and of the longest one that is ahead."""
    check_faithful(door, writer)
    found = [run[3:] for run in faithful_runs(door, writer)]
    return (max([len(owed) for owed, _ in found], default=0), max([len(ahead) for _, ahead in found], default=0))
