"""Faultruns: whether a program is safe, and otherwise a run with a fault and the fewest steps."""

from landedback.errors import TooMany
from landedback.following import web_of
from landedback.runs import faults_of, is_run
from landedback.searches import Search

MOST_STEPS = 200


def is_safe(program, *, most=1000):
    """Whether no run of a program has a fault."""
    return len(web_of(program, most).harms) == 0


def fewest(program, *, most=1000, plain=False):
    """The number of steps of a shortest run whose last step has a fault, or None."""
    return _search(program, most, plain).steps


def fault_run(program, *, most=1000, plain=False):
    """A shortest run whose last step has a fault, or None."""
    search = _search(program, most, plain)
    if search.steps is None:
        return None
    if search.steps > MOST_STEPS:
        raise TooMany(MOST_STEPS)
    return search.told_back()


def is_fault_run(program, thing):
    """Whether thing, any value, is a run of a program with a fault."""
    return is_run(program, thing) and len(faults_of(program, thing)) > 0


def _search(program, most, plain):
    """The Search in the table of a program that follows a thing."""
    web = web_of(program, most, plain=plain)
    key = ("search", plain)
    if key not in program.memory:
        program.memory[key] = Search(web)
    return program.memory[key]
