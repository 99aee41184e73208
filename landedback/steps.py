"""Steps: where a call goes from a row, by itself, by the calls that it calls, and by their ends."""

from landedback.moves import leaves, moves
from landedback.returns import called_at, passed_on, returns


def followers(program, row, *, plain=False):
    """The ascending list of the rows in which the call can stand behind a step."""
    return sorted(set([after for _, after, _ in moves(program, row, plain) if after is not None]))


def faulty(program, row, *, plain=False):
    """The ascending list of the tuples (word, address) of the faults of the row's steps in its call."""
    return sorted(set([fault for _, _, fault in moves(program, row, plain) if fault is not None]))


def leaving(program, row):
    """The ascending list of the outcomes of the row's landings in calls that wait."""
    return sorted(set([outcome for _, outcome in leaves(program, row) if outcome[0] == "jump"]))


def ending(program, row):
    """The outcome of the end of a function other than main if the row is there, otherwise None."""
    for _, outcome in leaves(program, row):
        if outcome[0] == "end":
            return outcome
    return None


def called(program, row):
    """The tuple (function, entry) with which the call begins ahead of which the row stands."""
    return called_at(program, row)


def behind(program, row, outcome, *, plain=False):
    """The ascending list of the rows to which an outcome of the call leads in the calling call."""
    return sorted(set([after for _, after, _ in returns(program, row, outcome, plain) if after is not None]))


def lost_behind(program, row, outcome, *, plain=False):
    """The ascending list of the tuples ("lost", address) of the faults to which an outcome leads there."""
    return sorted(set([fault for _, _, fault in returns(program, row, outcome, plain) if fault is not None]))


def passing(program, row, outcome):
    """The outcome of the calling call if the landing is in none of its own marks, otherwise None."""
    return passed_on(row, outcome)
