"""Moves: the steps of a row with their data, and to what each of them leads.

A fault is a tuple (word, address) here, its function being that of the row. Where a tuple has a
row and a fault, just one of both is not None.
"""

from landedback.data import parts_of

GO = ("go",)


def moves(program, row, plain):
    """The list of the tuples (data, row behind, fault) of the steps of a row that do not leave its call.

    Those that lead nowhere for another reason are left out, and so is the step of a call statement.
    """
    return moves_and_leaves(program, row, program.spot_at(row[0], row[2]), plain)[0]


def leaves(program, row):
    """The list of the tuples (data, outcome) of the steps of a row, in no call of main, that end its call.

    Nothing comes back in the data: what does is chosen where the call of the mark is known.
    """
    return moves_and_leaves(program, row, program.spot_at(row[0], row[2]), True)[1]


def moves_and_leaves(program, row, spot, plain):
    """The tuple of the two lists that moves and leaves return; spot is that of the row's place."""
    state = row[3]
    stays = _own_moves(program, row, spot)
    goes = [(GO, _end(program, row))] if spot.item is None and row[0] != "main" else []
    if state[3] != "" or spot.word == "jump":
        for word, telling, h in landings(program, row, spot):
            if telling[0] == "mine":
                for back, behind, fault in landed(program, row, telling, (h, state[2]), plain):
                    stays.append(((word, back), behind, fault))
            elif telling[0] == "outer":
                goes.append(((word, ()), ("jump", telling[1], h, closed_up(state[2]))))
            else:
                stays.append(((word, ()), None, ("fall", row[2])))
    return (stays, goes)


def _end(program, row):
    """The outcome of the end of the call of a row that stands there."""
    h, names, told, armed = row[3]
    return ("end", h, program.result(row[0]) in names, closed_up(told), armed)


def closed_up(told):
    """What cells tell once the call of this row is over."""
    return tuple([("ended",) if telling[0] == "mine" else telling for telling in told])


def landings(program, row, spot):
    """The list of the tuples (word of data, what the cell tells, h) of the steps of a row that land, or fall."""
    h, _, told, armed = row[3]
    found = []
    if spot.word == "jump":
        found.append(("jump", told[program.cell_index(spot.item[1])], h))
    if armed != "" and not program.is_shut((row[0], row[2])):
        telling = told[program.cell_index(armed)]
        found.append(("break", telling, h))
        if spot.word == "get":
            found.append(("within", telling, h))
            if h == "new":
                # The followed thing itself is got, and nobody holds it.
                found.append(("within", telling, "live"))
    return found


def landed(program, row, mark, fresh, plain):
    """The list of the tuples (names that come back, row behind, fault) of a landing at a mark of the row's call.

    fresh is the tuple of what h is, and what the cells tell, at the landing. Of names that have it
    both now and among the saved ones, or neither, it is the same whether they come back.
    """
    _, address, saved = mark
    function = row[0]
    names = row[3][1]
    door = program.spot_at(function, address).doors[1]
    found = [((),) + settled(row, door, (fresh[0], names, fresh[1], ""), address)]
    if plain or names == saved:
        return found
    unlike = [name for name in program.loose_at(function) if (name in names) != (name in saved)]
    for back in parts_of(unlike)[1:]:
        having = tuple([name for name in program.names_at(function) if (name in names) != (name in back)])
        found.append((back,) + settled(row, door, (fresh[0], having, fresh[1], ""), address))
    return found


def settled(row, address, state, place):
    """The tuple (row, fault) of a call of this row that comes to stand so; what is lost is lost at place."""
    if state[0] == "live" and state[1] == () and not row[1][2]:
        return (None, ("lost", place))
    return ((row[0], row[1], address, state), None)


def with_name(names, name, has):
    """The ascending tuple of these names where this one is among them, or is not."""
    if (name in names) == has:
        return names
    others = [one for one in names if one != name]
    return tuple(sorted(others + [name])) if has else tuple(others)


def _own_moves(program, row, spot):
    """Those of the statement, or of the end, landings left aside."""
    function, entry, address, state = row
    word = spot.word
    if word == "either" or word == "loop":
        return [(data, (function, entry, to, state), None) for data, to in spot.ways]
    if word == "call" or word == "jump":
        return []
    if word == "":
        lost = function == "main" and state[0] == "live"
        return [(GO, None, ("lost", address))] if lost else []
    if state[0] == "gone" and (word == "use" or word == "free") and spot.item[1] in state[1]:
        return [(GO, None, ("gone", address))]
    to = spot.ways[0][1]
    return [(GO,) + settled(row, to, behind, address) for behind in _states_behind(program, row, spot.item)]


def _states_behind(program, row, item):
    """The list of the states behind a statement; more than one at a get of what may be followed."""
    state = row[3]
    h, names, told, armed = state
    word = item[0]
    if word in ("get", "take", "clear"):
        behind = (h, with_name(names, item[1], _makes(item, h, names)), told, armed)
        return [behind, ("live", (item[1],), told, armed)] if word == "get" and h == "new" else [behind]
    if word == "free" and h == "live" and item[1] in names:
        return [("gone", names, told, armed)]
    if word == "mark":
        saved = tuple([name for name in program.loose_at(row[0]) if name in names])
        return [(h, names, _retold(program, told, item[1], ("mine", row[2], saved)), armed)]
    if word == "move":
        return [(h, names, _retold(program, told, item[1], told[program.cell_index(item[2])]), armed)]
    if word in ("arm", "rest"):
        return [(h, names, told, item[1] if word == "arm" else "")]
    return [state]


def _retold(program, told, cell, telling):
    """What the cells tell where this one tells something else."""
    at = program.cell_index(cell)
    return told[:at] + (telling,) + told[at + 1:]


def _makes(item, h, names):
    """Whether the name that a get, take or clear makes has it then; a thing that is got is another one."""
    if item[0] == "take":
        return item[2] in names
    return item[0] == "clear" and h == "nothing"
