"""Told: where runs can fall, what cells can tell, and what names can hold."""

from landedback.following import faults_found, rows_found, web_of


def falls(program, *, most=1000):
    """The ascending list of the places at which a run can fall."""
    web_of(program, most)
    return [(function, address) for word, function, address in faults_found(program) if word == "fall"]


def may_tell(program, place, cell, *, most=1000):
    """The ascending list of the words of what a cell can tell when a call at work stands at a place."""
    web_of(program, most)
    at = program.cell_index(cell)
    return sorted(set([row[3][2][at][0] for row in _rows_at(rows_found(program), place)]))


def may_hold(program, place, name, *, most=1000):
    """The ascending list of the words of what a name can hold when a call at work stands at a place."""
    web_of(program, most)
    web_of(program, most, nothing=True)
    rows = _rows_at(rows_found(program), place) + _rows_at(rows_found(program, nothing=True), place)
    return sorted(set([row[3][0] for row in rows if name in row[3][1]]))


def _rows_at(rows, place):
    return [row for row in rows if (row[0], row[2]) == place]
