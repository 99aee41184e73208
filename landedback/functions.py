"""Functions: the functions of a program, checked, and all that hangs on them alone."""

from landedback.errors import BadCells, BadStatement
from landedback.kinds import is_name, is_row
from landedback.spots import items_of, spots_of
from landedback.statements import cells_within, fresh_body, names_within

MOST_CELLS = 3
MOST_PARAMETERS = 2


class Functions:
    """The functions of a program; it is never changed, so programs that are alike in them may share it.

    whole is the dict from their names, ascending, to (parameters, body, result); the others are dicts
    from the same names: words to the ascending tuples of the names of the function, spots to the dicts
    from its addresses, ascending, to Spots. told is the ascending tuple of all cells.
    """

    def __init__(self, functions, fits):
        _check_statements(functions, fits)
        self.whole = {name: fresh_function(functions[name]) for name in sorted(list(functions))}
        self.spots = {name: spots_of(self.whole[name][1]) for name in self.whole}
        self.words = {name: _names_of(self.whole[name], self.spots[name]) for name in self.whole}
        self.told = _cells_of(self.spots)
        if len(self.told) > MOST_CELLS:
            raise BadCells(len(self.told))

    def has_name(self, function, name):
        """Whether there is such a name of such a function."""
        return function in self.words and name in self.words[function]

    def has_place(self, function, address):
        """Whether there is such a place."""
        return function in self.spots and address in self.spots[function]

    def callees(self, function):
        """The ascending list of the functions that are called in the body of a function."""
        items = [spot.item for spot in list(self.spots[function].values())]
        return sorted(set([item[2] for item in items if item is not None and item[0] == "call"]))


def are_functions(thing):
    """Whether thing, any value, is a dict of functions, whatever stands in their bodies."""
    if not isinstance(thing, dict) or not all([is_name(name) for name in thing]):
        return False
    if "main" not in thing or not all([_is_function(thing[name]) for name in thing]):
        return False
    return len(thing["main"][0]) == 0


def _is_function(thing):
    return isinstance(thing, tuple) and len(thing) == 3 and are_parts(thing[0], thing[1], thing[2])


def are_parts(parameters, body, result):
    """Whether these, any values, can be the parts of a function, whatever stands in its body."""
    return _are_parameters(parameters) and is_row(body) and is_name(result)


def _are_parameters(thing):
    if not is_row(thing) or len(thing) > MOST_PARAMETERS:
        return False
    return all([is_name(name) for name in thing]) and len(set(thing)) == len(thing)


def fresh_function(function):
    """The same function, with new lists for parameters and bodies."""
    parameters, body, result = function
    return (list(parameters), fresh_body(body), result)


def _check_statements(functions, fits):
    """Raises BadStatement with the least place of an item that may not stand there."""
    for function in sorted(list(functions)):
        for address, item in items_of(functions[function][1], fits):
            if not fits(item) or not _is_call_right(item, functions):
                raise BadStatement(function, address)


def _is_call_right(item, functions):
    """Whether an item with the form of a statement, if it is a call, calls what can be called so."""
    if item[0] != "call":
        return True
    called = item[2]
    return called != "main" and called in functions and len(functions[called][0]) == len(item[3])


def _names_of(function, spots):
    parameters, _, result = function
    found = [name for spot in list(spots.values()) if spot.item is not None for name in names_within(spot.item)]
    return tuple(sorted(set(parameters + found + [result])))


def _cells_of(spots):
    items = [spot.item for inner in list(spots.values()) for spot in list(inner.values()) if spot.item is not None]
    return tuple(sorted(set([cell for item in items for cell in cells_within(item)])))
