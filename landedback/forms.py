"""Forms: whether any values are entries, rows and outcomes of a program, of a run or not."""

from landedback.kinds import is_address, is_integer

# What h of a row or an outcome can be, by h of the entry.
_LATER = {
    "new": ("gone", "live", "new"),
    "live": ("gone", "live"),
    "gone": ("gone",),
    "nothing": ("nothing",),
}


def is_row_of(program, thing):
    """Whether thing, any value, is a row of a program."""
    if not _is_tuple(thing, 4) or not program.has_function(thing[0]):
        return False
    function, entry, address, state = thing
    if not is_entry_of(program, function, entry) or not _is_place(program, function, address):
        return False
    if not _is_tuple(state, 4):
        return False
    h, names, told, armed = state
    if not _is_later(entry, h) or not _are_some(program.names(function), names) or not _is_armed(program, armed):
        return False
    if h == "new" and len(names) > 0:
        return False
    if h == "live" and len(names) == 0 and not entry[2]:
        return False
    if not _are_told(program, told):
        return False
    return all([_is_told(entry, item) or _is_mine(program, function, h, item) for item in told])


def is_end_of(program, thing):
    """Whether thing, any value, is a tuple (function, entry, outcome) of a program."""
    if not _is_tuple(thing, 3) or not program.has_function(thing[0]) or thing[0] == "main":
        return False
    function, entry, outcome = thing
    if not is_entry_of(program, function, entry):
        return False
    return _is_end(program, entry, outcome) or _is_jump(program, entry, outcome)


def is_entry_of(program, function, thing):
    """Whether thing, any value, is an entry of a function of a program."""
    if not _is_tuple(thing, 5):
        return False
    h, passed, outside, told, armed = thing
    if not isinstance(h, str) or h not in _LATER or not isinstance(outside, bool):
        return False
    if not _are_indexes(len(program.parameters(function)), passed) or not _is_armed(program, armed):
        return False
    if h == "new" and len(passed) > 0:
        return False
    if outside and (function == "main" or h not in ("live", "gone")):
        return False
    if not _are_told(program, told):
        return False
    return all([_is_told_at_begin(function, told, at) for at in range(len(told))])


def _is_end(program, entry, thing):
    if not _is_tuple(thing, 5) or not _is_word(thing[0], "end"):
        return False
    _, h, holds, told, armed = thing
    if not _is_later(entry, h) or not isinstance(holds, bool) or holds and h == "new":
        return False
    return _is_armed(program, armed) and _are_told_behind(program, entry, told)


def _is_jump(program, entry, thing):
    if not _is_tuple(thing, 4) or not _is_word(thing[0], "jump"):
        return False
    _, i, h, told = thing
    return _is_outer(entry[3], i) and _is_later(entry, h) and _are_told_behind(program, entry, told)


def _is_tuple(thing, many):
    return isinstance(thing, tuple) and len(thing) == many


def _is_word(thing, word):
    return isinstance(thing, str) and thing == word


def _is_place(program, function, thing):
    return is_address(thing) and program.has_address(function, thing)


def _is_later(entry, h):
    """Whether h, any value, can be that of a row or an outcome with this entry."""
    return isinstance(h, str) and h in _LATER[entry[0]]


def _is_armed(program, thing):
    return isinstance(thing, str) and (thing == "" or thing in program.cells())


def _are_some(names, thing):
    """Whether thing, any value, is an ascending tuple of some of these ascending names, each once."""
    if not isinstance(thing, tuple) or not all([isinstance(item, str) for item in thing]):
        return False
    return list(thing) == [name for name in names if name in thing]


def _are_indexes(many, thing):
    """Whether thing, any value, is an ascending tuple of some integers from 0 to many - 1, each once."""
    if not isinstance(thing, tuple) or not all([is_integer(item) for item in thing]):
        return False
    return list(thing) == [at for at in range(many) if at in thing]


def _are_told(program, thing):
    """Whether thing, any value, is a tuple with a tuple, a word ahead in it, for each cell."""
    if not _is_tuple(thing, len(program.cells())):
        return False
    return all([isinstance(item, tuple) and len(item) > 0 and isinstance(item[0], str) for item in thing])


def _are_told_behind(program, entry, thing):
    return _are_told(program, thing) and all([_is_told(entry, item) for item in thing])


def _is_told(entry, item):
    """Whether an item tells what a cell of a call with this entry can tell, its own marks left aside."""
    if item[0] == "outer":
        return len(item) == 2 and _is_outer(entry[3], item[1])
    return len(item) == 1 and item[0] in ("ended", "nothing")


def _is_outer(told, i):
    """Whether i, any value, is the index of a mark that a call was told when it began."""
    return is_integer(i) and 0 <= i < len(told) and told[i] == ("outer", i)


def _is_told_at_begin(function, told, at):
    item = told[at]
    if item[0] == "outer":
        return function != "main" and len(item) == 2 and _is_outer(told, item[1]) and item[1] <= at
    return len(item) == 1 and item[0] in ("ended", "nothing")


def _is_mine(program, function, h, item):
    """Whether an item tells a mark of a call of the function itself."""
    if item[0] != "mine" or len(item) != 3 or not _is_place(program, function, item[1]):
        return False
    if h == "new" and item[2] != ():
        return False
    statement = program.spot((function, item[1])).item
    return statement is not None and statement[0] == "mark" and _are_some(program.loose_names(function), item[2])
