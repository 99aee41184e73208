"""Runs: lists of the data of steps, and what comes of them."""

from landedback.data import bare
from landedback.errors import Broken, Over, Unfit
from landedback.kinds import is_row
from landedback.machine import Machine


def played(program, run):
    """The Machine behind a run of a program."""
    machine = Machine(program)
    for at, data in enumerate(run):
        _play(machine, at, data)
    return machine


def _play(machine, at, data):
    """Does the step with the number at."""
    try:
        machine.step(data)
    except (Over, Unfit):
        raise Broken(at) from None


def is_run(program, thing):
    """Whether thing, any value, is a run of a program."""
    if not is_row(thing):
        return False
    try:
        played(program, thing)
    except Broken:
        return False
    return True


def faults_of(program, run):
    """The list of the faults of a run."""
    return played(program, run).faults()


def walk(program, run):
    """A generator of the places at which the steps of a run are done, and of the one behind."""
    machine = Machine(program)
    # Copied ahead of the first yield, since the caller may change the run between two places.
    steps = list(run)
    yield machine.here()
    for at, data in enumerate(steps):
        _play(machine, at, data)
        yield machine.here()


def plainly(program, run):
    """The list of the same data where nothing comes back."""
    return [bare(data) for data in played(program, run).run()]
