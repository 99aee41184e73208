"""Plainruns: what the plain runs of a program show if all names are taken as loose."""

from landedback.moves import item_at, landings
from landedback.statements import read
from landedback.steps import called
from landedback.tables import Table


class PlainRuns:
    """The table of the plain runs of a program, all names loose, and the landings in it.

    A landing is a tuple (row, saved, h): the call of the row lands at a mark of its own for which
    these saved ones are the followed thing, and h is as it is then.
    """

    def __init__(self, program, most):
        self.bare = program.with_kept([])
        self.table = Table(self.bare, most=most, plain=True)
        self.landings = [found for row in self.table.rows() for found in self._landings_of(row)]

    def _landings_of(self, row):
        """The list of the landings in the call of a row, by its steps or out of the call that is called at it."""
        told = row[3][2]
        ways = [(telling, h) for _, telling, h in landings(self.bare, row)]
        item = item_at(self.bare, row)
        if item is not None and item[0] == "call":
            function, entry = called(self.bare, row)
            outcomes = self.table.outcomes(function, entry)
            ways = ways + [(told[outcome[1]], outcome[2]) for outcome in outcomes if outcome[0] == "jump"]
        return [(row, telling[2], h) for telling, h in ways if telling[0] == "mine"]


def got_since(program, *, most=1000):
    """The ascending list of the names that can hold, at a landing, a live thing that is not their saved one."""
    return names_got(PlainRuns(program, most))


def changed(program, *, most=1000):
    """The ascending list of the names that can hold, at a landing, something else than their saved one.

    A name that holds a thing and whose saved one is nothing counts, and so does the other way about.
    """
    found = []
    for row, saved, h in PlainRuns(program, most).landings:
        if h in ("live", "gone"):
            names = row[3][1]
            found.extend([(row[0], name) for name in names if name not in saved])
            found.extend([(row[0], name) for name in saved if name not in names])
    return sorted(set(found))


def shared(program, *, most=1000):
    """The ascending list of those of got_since that never hold such a thing alone."""
    return names_shared(PlainRuns(program, most))


def empty_uses(program, *, most=1000):
    """The ascending list of the tuples (function, address, name) of what may be read though it holds no live thing."""
    return uses_found(PlainRuns(program, most), most)


def names_got(runs):
    """got_since of PlainRuns."""
    return sorted(set([(row[0], name) for row, name in _got(runs)]))


def names_shared(runs):
    """shared of PlainRuns."""
    got = _got(runs)
    alone = [(row[0], name) for row, name in got if len(row[3][1]) == 1 and not row[1][2]]
    return sorted(set([(row[0], name) for row, name in got]) - set(alone))


def uses_found(runs, most):
    """empty_uses of PlainRuns; most is for the table that follows nothing."""
    other = Table(runs.bare, most=most, plain=True, nothing=True)
    rows = [row for row in runs.table.rows() if row[3][0] == "gone"] + other.rows()
    return sorted(set([(row[0], row[2], name) for row in rows for name in _read_at(runs.bare, row)
                       if name in row[3][1]]))


def _got(runs):
    """The list of the tuples (row, name) of names that hold a live thing at a landing, not their saved one."""
    return [(row, name) for row, saved, h in runs.landings if h == "live" for name in row[3][1] if name not in saved]


def _read_at(program, row):
    """The list of the names whose holding the statement at a row uses, or the end of a called function."""
    item = item_at(program, row)
    if item is not None:
        return read(item)
    return [] if row[0] == "main" else [program.result(row[0])]
