"""Returns: to what the outcomes of a call lead in the call that called it."""

from landedback.moves import item_at, landed, settled, with_name


def returns(program, row, outcome, plain):
    """The list of the tuples (names that come back, row behind, fault) of an outcome of the call at a row.

    It has none if the outcome is a landing in none of the marks of the row's call.
    """
    if outcome[0] == "end":
        _, h, holds, told, armed = outcome
        names = with_name(row[3][1], item_at(program, row)[1], holds)
        state = (h, names, told_here(row, told), armed)
        behind = program.spot((row[0], row[2])).behind
        return [((),) + settled(row, behind, state, row[2])]
    _, i, h, told = outcome
    telling = row[3][2][i]
    if telling[0] != "mine":
        return []
    return landed(program, row, telling, (h, told_here(row, told)), plain)


def told_here(row, told):
    """What cells tell, in the words of the row's call, if told is in those of the call that it called."""
    return tuple([row[3][2][telling[1]] if telling[0] == "outer" else telling for telling in told])
