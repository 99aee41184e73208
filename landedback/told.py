"""Told: where runs can fall, what cells can tell, and what names can hold."""

from landedback.tables import Table


def falls(program, *, most=1000):
    """The ascending list of the places at which a run can fall."""
    faults = Table(program, most=most).faults()
    return [(function, address) for word, function, address in faults if word == "fall"]


def may_tell(program, place, cell, *, most=1000):
    """The ascending list of the words of what a cell can tell when a call at work stands at a place."""
    rows = Table(program, most=most).rows_at(place[0], place[1])
    at = program.cells().index(cell)
    return sorted(set([row[3][2][at][0] for row in rows]))


def may_hold(program, place, name, *, most=1000):
    """The ascending list of the words of what a name can hold when a call at work stands at a place."""
    rows = Table(program, most=most).rows_at(place[0], place[1])
    rows = rows + Table(program, most=most, nothing=True).rows_at(place[0], place[1])
    return sorted(set([row[3][0] for row in rows if name in row[3][1]]))
