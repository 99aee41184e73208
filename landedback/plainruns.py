"""Plainruns: what the plain runs of a program show if all names are taken as loose."""

from landedback.following import web_of, whole_web
from landedback.memory import recalled
from landedback.moves import landings
from landedback.statements import read


def got_since(program, *, most=1000):
    """The ascending list of the names that can hold, at a landing, a live thing that is not their saved one."""
    return list(names_got(looked_at(program, most)))


def changed(program, *, most=1000):
    """The ascending list of the names that can hold, at a landing, something else than their saved one.

    A name that holds a thing and whose saved one is nothing counts, and so does the other way about.
    """
    return list(_landed(looked_at(program, most)).other)


def shared(program, *, most=1000):
    """The ascending list of those of got_since that never hold such a thing alone."""
    return list(names_shared(looked_at(program, most)))


def empty_uses(program, *, most=1000):
    """The ascending list of the tuples (function, address, name) of what may be read though it holds no live thing."""
    return list(uses_found(wholly_looked_at(program, most)))


def looked_at(program, most):
    """The program with nothing kept; its table for plain runs that follows a thing has no more rows than most."""
    bare = recalled(program, "bare", _bare_of) if len(program.kept()) > 0 else program
    web_of(bare, most, plain=True)
    return bare


def wholly_looked_at(program, most):
    """The same, where this holds for the table that follows nothing, too."""
    bare = looked_at(program, most)
    web_of(bare, most, plain=True, nothing=True)
    return bare


def names_got(bare):
    """got_since of a program that was looked at; to be read only."""
    return _landed(bare).got


def names_shared(bare):
    """shared of a program that was looked at; to be read only."""
    return _landed(bare).together


def uses_found(bare):
    """empty_uses of a program that was wholly looked at; to be read only."""
    return recalled(bare, "uses", _find_uses)


class Landed:
    """What the landings of plain runs show: the ascending lists of got_since, changed and shared."""

    def __init__(self, got, other, together):
        self.got = got
        self.other = other
        self.together = together


def _bare_of(program):
    return program.with_kept([])


def _landed(bare):
    return recalled(bare, "landed", _find_landed)


def _find_landed(bare):
    got = set()
    alone = set()
    other = set()
    for row, saved, h in _landings_in(bare):
        function, entry, _, state = row
        names = state[1]
        for name in names:
            if name not in saved:
                other.add((function, name))
                if h == "live":
                    got.add((function, name))
                    # Of what a call that waits holds the entry tells.
                    if len(names) == 1 and not entry[2]:
                        alone.add((function, name))
        for name in saved:
            if name not in names:
                other.add((function, name))
    return Landed(sorted(got), sorted(other), [item for item in sorted(got) if item not in alone])


def _landings_in(bare):
    """The list of the tuples (row, saved ones, h) of the landings in the calls of rows, at marks of their own."""
    web = whole_web(bare, plain=True)
    found = []
    for number in web.row_numbers:
        row = web.nodes[number]
        spot = bare.spot_at(row[0], row[2])
        ways = []
        if row[3][3] != "" or spot.word == "jump":
            ways = [(telling, h) for _, telling, h in landings(bare, row, spot)]
        if number in web.joints:
            outcomes = [web.nodes[end][2] for end in web.joints[number]]
            ways = ways + [(row[3][2][outcome[1]], outcome[2]) for outcome in outcomes if outcome[0] == "jump"]
        found.extend([(row, telling[2], h) for telling, h in ways if telling[0] == "mine"])
    return found


def _find_uses(bare):
    """Of both tables, what is read while it holds nothing, or what is gone."""
    found = set()
    for nothing in (False, True):
        web = whole_web(bare, plain=True, nothing=nothing)
        for number in web.row_numbers:
            function, _, address, state = web.nodes[number]
            if state[0] in ("gone", "nothing"):
                for name in _read_at(bare, function, address):
                    if name in state[1]:
                        found.add((function, address, name))
    return sorted(found)


def _read_at(bare, function, address):
    """The list of the names whose holding the statement at a place uses, or the end of a called function."""
    item = bare.spot((function, address)).item
    if item is not None:
        return read(item)
    return [] if function == "main" else [bare.result(function)]
