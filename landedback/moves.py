"""Moves: the steps of a row with their data, and to what each of them leads.

A fault is a tuple (word, address) here, its function being that of the row. Where a tuple has a
row and a fault, just one of both is not None.
"""

from landedback.data import parts_of


def item_at(program, row):
    """The statement at which a row stands, or None at an end; to be read only."""
    return program.spot((row[0], row[2])).item


def moves(program, row, plain):
    """The list of the tuples (data, row behind, fault) of the steps of a row that do not leave its call.

    Those that lead nowhere for another reason are left out, and so is the step of a call statement.
    """
    found = _own_moves(program, row)
    for word, telling, h in landings(program, row):
        if telling[0] == "mine":
            for back, behind, fault in landed(program, row, telling, (h, row[3][2]), plain):
                found.append(((word, back), behind, fault))
        elif telling[0] != "outer":
            found.append(((word, ()), None, ("fall", row[2])))
    return found


def leaves(program, row):
    """The list of the tuples (data, outcome) of the steps of a row, in no call of main, that end its call.

    Nothing comes back in the data: what does is chosen where the call of the mark is known.
    """
    h, names, told, armed = row[3]
    left = closed_up(told)
    found = []
    if item_at(program, row) is None and row[0] != "main":
        found.append((("go",), ("end", h, program.result(row[0]) in names, left, armed)))
    for word, telling, then in landings(program, row):
        if telling[0] == "outer":
            found.append(((word, ()), ("jump", telling[1], then, left)))
    return found


def closed_up(told):
    """What cells tell once the call of this row is over."""
    return tuple([("ended",) if telling[0] == "mine" else telling for telling in told])


def landings(program, row):
    """The list of the tuples (word of data, what the cell tells, h) of the steps of a row that land, or fall."""
    h, _, told, armed = row[3]
    cells = program.cells()
    item = item_at(program, row)
    found = []
    if item is not None and item[0] == "jump":
        found.append(("jump", told[cells.index(item[1])], h))
    if armed != "" and not program.is_shut((row[0], row[2])):
        telling = told[cells.index(armed)]
        found.append(("break", telling, h))
        if item is not None and item[0] == "get":
            found.append(("within", telling, h))
            if h == "new":
                # The followed thing itself is got, and nobody holds it.
                found.append(("within", telling, "live"))
    return found


def landed(program, row, mark, fresh, plain):
    """The list of the tuples (names that come back, row behind, fault) of a landing at a mark of the row's call.

    fresh is the tuple of what h is, and what the cells tell, at the landing. Of names that have it
    both now and among the saved ones, or neither, it is the same whether they come back.
    """
    _, address, saved = mark
    names = row[3][1]
    loose = [] if plain else program.loose_names(row[0])
    unlike = [name for name in loose if (name in names) != (name in saved)]
    door = program.spot((row[0], address)).doors[1]
    found = []
    for back in parts_of(unlike):
        having = [name for name in program.names(row[0]) if (name in names) != (name in back)]
        state = (fresh[0], tuple(having), fresh[1], "")
        found.append((back,) + settled(row, door, state, address))
    return found


def settled(row, address, state, place):
    """The tuple (row, fault) of a call of this row that comes to stand so; what is lost is lost at place."""
    outside = row[1][2]
    if state[0] == "live" and len(state[1]) == 0 and not outside:
        return (None, ("lost", place))
    return ((row[0], row[1], address, state), None)


def with_name(names, name, has):
    """The ascending tuple of these names where this one is among them, or is not."""
    others = [one for one in names if one != name]
    return tuple(sorted(others + [name])) if has else tuple(others)


def _own_moves(program, row):
    """Those of the statement, or of the end, landings left aside."""
    h, names, _, _ = row[3]
    address = row[2]
    item = item_at(program, row)
    if item is None:
        lost = row[0] == "main" and h == "live"
        return [(("go",), None, ("lost", address))] if lost else []
    if item[0] in ("use", "free") and h == "gone" and item[1] in names:
        return [(("go",), None, ("gone", address))]
    return [(data,) + settled(row, behind, state, address) for data, behind, state in _changes(program, row, item)]


def _changes(program, row, item):
    """The list of the tuples (data, address, state) to which the statement leads, faults left aside."""
    spot = program.spot((row[0], row[2]))
    state = row[3]
    if item[0] in ("call", "jump"):
        return []
    if item[0] == "either":
        return [(("body", b), door, state) for b, door in enumerate(spot.doors)]
    if item[0] == "loop":
        return [(("body", 0), spot.doors[0], state), (("go",), spot.behind, state)]
    if item[0] == "mark":
        return [(("go",), spot.doors[0], _marked(program, row, item))]
    return [(("go",), spot.behind, behind) for behind in _states_behind(program, item, state)]


def _marked(program, row, item):
    h, names, told, armed = row[3]
    saved = tuple([name for name in program.loose_names(row[0]) if name in names])
    return (h, names, _retold(program, told, item[1], ("mine", row[2], saved)), armed)


def _retold(program, told, cell, telling):
    """What the cells tell where this one tells something else."""
    return tuple([telling if one == cell else was for one, was in zip(program.cells(), told)])


def _states_behind(program, item, state):
    """The states behind a statement that has one way; more than one at a get of what may be followed."""
    h, names, told, armed = state
    word = item[0]
    if word == "get" and h == "new":
        return [state, ("live", (item[1],), told, armed)]
    if word in ("get", "take", "clear"):
        return [(h, with_name(names, item[1], _makes(item, h, names)), told, armed)]
    if word == "free" and h == "live" and item[1] in names:
        return [("gone", names, told, armed)]
    if word == "move":
        telling = told[program.cells().index(item[2])]
        return [(h, names, _retold(program, told, item[1], telling), armed)]
    if word in ("arm", "rest"):
        return [(h, names, told, item[1] if word == "arm" else "")]
    return [state]


def _makes(item, h, names):
    """Whether the name that a get, take or clear makes has it then; a thing that is got is another one."""
    if item[0] == "take":
        return item[2] in names
    return item[0] == "clear" and h == "nothing"
