"""Steady: programs for which plain runs tell what must be kept in memory."""

from landedback.errors import Faulty, Unsteady
from landedback.plainruns import PlainRuns, names_got, names_shared, uses_found


def unsteady(program, *, most=1000):
    """None if a program is steady, otherwise a tuple that tells why it is not."""
    runs = PlainRuns(program, most)
    return _why(runs, uses_found(runs, most))


def is_steady(program, *, most=1000):
    """Whether a program is steady."""
    return unsteady(program, most=most) is None


def must_keep(program, *, most=1000):
    """The ascending list of the names that must be kept for a steady program to be safe."""
    runs = PlainRuns(program, most)
    # Found ahead of the errors below, since its table may have too many rows, which goes ahead of them.
    uses = uses_found(runs, most)
    faults = runs.table.faults()
    if len(faults) > 0:
        word, function, address = faults[0]
        raise Faulty(word, function, address)
    why = _why(runs, uses)
    if why is not None:
        raise Unsteady(why)
    return names_got(runs)


def safe_with(program, names, *, most=1000):
    """Whether a steady program is safe if just these names are kept."""
    # Raises what is to be raised for names that there are not.
    program.with_kept(names)
    return all([name in names for name in must_keep(program, most=most)])


def _why(runs, uses):
    """Why a program is not steady, or None."""
    together = names_shared(runs)
    if len(together) > 0:
        return ("shared",) + together[0]
    got = names_got(runs)
    empty = [use for use in uses if (use[0], use[2]) not in got]
    return ("empty",) + empty[0] if len(empty) > 0 else None
