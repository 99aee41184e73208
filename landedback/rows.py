"""Rows: how calls begin, and where they stand then, as one thing, or nothing, is followed.

An entry, (h, passed, outside, told, armed), tells how a call begins; a row, (function, entry,
address, (h, names, told, armed)), where a call stands; an outcome, ("end", h, holds, told, armed)
or ("jump", i, h, told), how a call ends.
"""


def begin_entry(program, *, nothing=False):
    """The entry of main."""
    told = tuple([("nothing",) for _ in program.cells()])
    return ("nothing" if nothing else "new", (), False, told, "")


def begin_row(program, function, entry):
    """The row in which a call with an entry begins."""
    h, passed, _, told, armed = entry
    parameters = program.parameters(function)
    having = [parameters[at] for at in passed]
    if h == "nothing":
        having = having + [name for name in program.names(function) if name not in parameters]
    return (function, entry, (0,), (h, tuple(sorted(having)), told, armed))
