"""Returns: how calls begin that are called at rows, and to what their outcomes lead in the calls that called them."""

from landedback.moves import closed_up, landed, settled, with_name


def called_at(program, row):
    """The tuple (function, entry) with which the call begins ahead of which the row stands."""
    h, names, told, armed = row[3]
    item = program.spot_at(row[0], row[2]).item
    passed = tuple([at for at, name in enumerate(item[3]) if name in names])
    # Now the row's call waits, too; so its own names count among those outside.
    outside = h in ("live", "gone") and (row[1][2] or len(names) > 0)
    return (item[2], (h, passed, outside, _told_to(told), armed))


def _told_to(told):
    """What cells tell, in the words of a call that begins."""
    return tuple([("outer", told.index(telling)) if telling[0] in ("mine", "outer") else telling for telling in told])


def returns(program, row, outcome, plain):
    """The list of the tuples (names that come back, row behind, fault) of an outcome of the call at a row.

    It has none if the outcome is a landing in none of the marks of the row's call.
    """
    if outcome[0] == "end":
        _, h, holds, told, armed = outcome
        spot = program.spot_at(row[0], row[2])
        names = with_name(row[3][1], spot.item[1], holds)
        return [((),) + settled(row, spot.behind, (h, names, _told_here(row, told), armed), row[2])]
    _, i, h, told = outcome
    telling = row[3][2][i]
    if telling[0] != "mine":
        return []
    return landed(program, row, telling, (h, _told_here(row, told)), plain)


def passed_on(row, outcome):
    """The outcome of the calling call if the landing is in none of its own marks, otherwise None."""
    if outcome[0] == "end":
        return None
    _, i, h, told = outcome
    telling = row[3][2][i]
    if telling[0] == "mine":
        return None
    return ("jump", telling[1], h, closed_up(_told_here(row, told)))


def _told_here(row, told):
    """What cells tell, in the words of the row's call, if told is in those of the call that it called."""
    own = row[3][2]
    return tuple([own[telling[1]] if telling[0] == "outer" else telling for telling in told])
