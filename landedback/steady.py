"""Steady: programs for which plain runs tell what must be kept in memory."""

from landedback.errors import Faulty, Unsteady
from landedback.following import faults_found
from landedback.memory import recalled
from landedback.plainruns import names_got, names_shared, uses_found, wholly_looked_at


def unsteady(program, *, most=1000):
    """None if a program is steady, otherwise a tuple that tells why it is not."""
    return _why(wholly_looked_at(program, most))


def is_steady(program, *, most=1000):
    """Whether a program is steady."""
    return unsteady(program, most=most) is None


def must_keep(program, *, most=1000):
    """The ascending list of the names that must be kept for a steady program to be safe."""
    return list(_musts(program, most))


def safe_with(program, names, *, most=1000):
    """Whether a steady program is safe if just these names are kept."""
    program.check_kept(names)
    return all([name in names for name in _musts(program, most)])


def _musts(program, most):
    """must_keep, to be read only."""
    bare = wholly_looked_at(program, most)
    faults = faults_found(bare, plain=True)
    if len(faults) > 0:
        word, function, address = faults[0]
        raise Faulty(word, function, address)
    why = _why(bare)
    if why is not None:
        raise Unsteady(why)
    return names_got(bare)


def _why(bare):
    """Why a program that was wholly looked at is not steady, or None."""
    return recalled(bare, "why", _find_why)


def _find_why(bare):
    together = names_shared(bare)
    if len(together) > 0:
        return ("shared",) + together[0]
    got = names_got(bare)
    empty = [use for use in uses_found(bare) if (use[0], use[2]) not in got]
    return ("empty",) + empty[0] if len(empty) > 0 else None
