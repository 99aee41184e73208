"""Programs: functions, which of their names are kept, and which of their places are shut."""

from landedback.errors import BadCells, BadKept, BadShut, BadStatement, Unknown, Wrong
from landedback.kinds import is_address, is_name, is_row
from landedback.spots import items_of, spots_of
from landedback.statements import cells_in, fresh_body, is_form, named

MOST_CELLS = 3
MOST_PARAMETERS = 2


class Program:
    """A program; it never changes."""

    def __init__(self, functions, *, kept=(), shut=()):
        if not _are_functions(functions):
            raise Wrong(0)
        if not _are_kept(kept):
            raise Wrong(1)
        if not _are_shut(shut):
            raise Wrong(2)
        _check_statements(functions)
        cells = _cells_of(functions)
        if len(cells) > MOST_CELLS:
            raise BadCells(len(cells))
        self._functions = {name: _fresh_function(functions[name]) for name in sorted(list(functions))}
        self._cells = cells
        self._names = {name: _names_of(self._functions[name]) for name in self._functions}
        self._spots = {name: spots_of(self._functions[name][1]) for name in self._functions}
        for function, name in kept:
            if function not in self._names or name not in self._names[function]:
                raise BadKept(function, name)
        for function, address in shut:
            if function not in self._spots or address not in self._spots[function]:
                raise BadShut(function, address)
        self._kept = sorted(set(kept))
        self._shut = sorted(set(shut))

    def functions(self):
        """The dict from the names of the functions, ascending, to (parameters, body, result)."""
        return {name: _fresh_function(self._functions[name]) for name in self._functions}

    def parameters(self, function):
        """The list of the parameters of a function."""
        return list(self._told_of(function)[0])

    def result(self, function):
        """The result of a function, one of its names."""
        return self._told_of(function)[2]

    def names(self, function):
        """The ascending list of all names of a function."""
        self._told_of(function)
        return list(self._names[function])

    def kept_names(self, function):
        """The ascending list of the names of a function that are kept."""
        return [name for name in self.names(function) if (function, name) in self._kept]

    def loose_names(self, function):
        """The ascending list of the names of a function that are not kept."""
        return [name for name in self.names(function) if (function, name) not in self._kept]

    def calls(self, function):
        """The ascending list of the functions that are called in the body of a function."""
        items = [item for _, item in items_of(self._told_of(function)[1])]
        return sorted(set([item[2] for item in items if item[0] == "call"]))

    def kept(self):
        """The ascending list of the tuples (function, name) of what is kept."""
        return list(self._kept)

    def shut(self):
        """The ascending list of the places that are shut."""
        return list(self._shut)

    def cells(self):
        """The ascending list of all cells."""
        return list(self._cells)

    def reached(self):
        """The ascending list of main and the functions that main calls, itself or by others."""
        found = ["main"]
        at = 0
        while at < len(found):
            called = self.calls(found[at])
            for function in called:
                if function not in found:
                    found.append(function)
            at += 1
        return sorted(found)

    def with_kept(self, kept):
        """The Program with another list of what is kept."""
        return Program(self._functions, kept=kept, shut=self._shut)

    def with_shut(self, shut):
        """The Program with another list of what is shut."""
        return Program(self._functions, kept=self._kept, shut=shut)

    def has_function(self, thing):
        """Whether thing, any value, is the name of a function."""
        return is_name(thing) and thing in self._functions

    def has_address(self, function, address):
        """Whether an address stands in a function."""
        return address in self._spots[function]

    def addresses(self, function):
        """The ascending list of the addresses in a function, its end included."""
        return list(self._spots[function])

    def spot(self, place):
        """The Spot at a place. Its statement is the Program's own, to be read only."""
        return self._spots[place[0]][place[1]]

    def is_shut(self, place):
        """Whether a place is shut."""
        return place in self._shut

    def _told_of(self, function):
        if function not in self._functions:
            raise Unknown(function)
        return self._functions[function]

    def __eq__(self, other):
        return (isinstance(other, Program) and self._functions == other._functions
                and self._kept == other._kept and self._shut == other._shut)


def _are_functions(thing):
    if not isinstance(thing, dict) or not all([is_name(name) for name in thing]):
        return False
    if "main" not in thing or not all([_is_function(thing[name]) for name in thing]):
        return False
    return len(thing["main"][0]) == 0


def _is_function(thing):
    if not isinstance(thing, tuple) or len(thing) != 3:
        return False
    parameters, body, result = thing
    return _are_parameters(parameters) and is_row(body) and is_name(result)


def _are_parameters(thing):
    if not is_row(thing) or len(thing) > MOST_PARAMETERS:
        return False
    return all([is_name(name) for name in thing]) and len(set(thing)) == len(thing)


def _are_kept(thing):
    return is_row(thing) and all([_is_pair(item) and is_name(item[1]) for item in thing])


def _are_shut(thing):
    return is_row(thing) and all([_is_pair(item) and is_address(item[1]) for item in thing])


def _is_pair(thing):
    """Whether thing is a tuple of a name and one more item."""
    return isinstance(thing, tuple) and len(thing) == 2 and is_name(thing[0])


def _check_statements(functions):
    """Raises BadStatement with the least place of an item that may not stand there."""
    for function in sorted(list(functions)):
        for address, item in items_of(functions[function][1]):
            if not is_form(item) or not _is_call_right(item, functions):
                raise BadStatement(function, address)


def _is_call_right(item, functions):
    """Whether an item with the form of a statement, if it is a call, calls what can be called so."""
    if item[0] != "call":
        return True
    called = item[2]
    return called != "main" and called in functions and len(functions[called][0]) == len(item[3])


def _cells_of(functions):
    found = [cell for name in functions for item in functions[name][1] for cell in cells_in(item)]
    return sorted(set(found))


def _names_of(function):
    parameters, body, result = function
    found = [name for item in body for name in named(item)]
    return sorted(set(list(parameters) + found + [result]))


def _fresh_function(function):
    parameters, body, result = function
    return (list(parameters), fresh_body(body), result)
