"""Programs: functions, which of their names are kept, and which of their places are shut."""

from landedback.errors import BadKept, BadShut, Unknown, Wrong
from landedback.functions import Functions, are_functions, fresh_function
from landedback.kinds import is_address, is_name, is_row
from landedback.statements import is_form


class Program:
    """A program; it never changes.

    memory is not a part of what it is: it has what was found out of it before.
    """

    def __init__(self, functions, *, kept=(), shut=()):
        # A Functions is handed in by other Programs alone, and was checked when it was made.
        known = isinstance(functions, Functions)
        if not known and not are_functions(functions):
            raise Wrong(0)
        if not are_kept(kept):
            raise Wrong(1)
        if not are_shut(shut):
            raise Wrong(2)
        self._functions = functions if known else Functions(functions, is_form)
        self.check_kept(kept)
        self._check_shut(shut)
        self._kept = {item: True for item in sorted(set(kept))}
        self._shut = {place: True for place in sorted(set(shut))}
        words = self._functions.words
        self._loose = {function: self._loose_of(function) for function in words}
        self._indexes = {cell: at for at, cell in enumerate(self._functions.told)}
        self.memory = {}

    def functions(self):
        """The dict from the names of the functions, ascending, to (parameters, body, result)."""
        whole = self._functions.whole
        return {name: fresh_function(whole[name]) for name in whole}

    def parameters(self, function):
        """The list of the parameters of a function."""
        return list(self._told_of(function)[0])

    def result(self, function):
        """The result of a function, one of its names."""
        return self._told_of(function)[2]

    def names(self, function):
        """The ascending list of all names of a function."""
        self._told_of(function)
        return list(self._functions.words[function])

    def kept_names(self, function):
        """The ascending list of the names of a function that are kept."""
        return [name for name in self.names(function) if (function, name) in self._kept]

    def loose_names(self, function):
        """The ascending list of the names of a function that are not kept."""
        self._told_of(function)
        return list(self._loose[function])

    def calls(self, function):
        """The ascending list of the functions that are called in the body of a function."""
        self._told_of(function)
        return self._functions.callees(function)

    def kept(self):
        """The ascending list of the tuples (function, name) of what is kept."""
        return list(self._kept)

    def shut(self):
        """The ascending list of the places that are shut."""
        return list(self._shut)

    def cells(self):
        """The ascending list of all cells."""
        return list(self._functions.told)

    def reached(self):
        """The ascending list of main and the functions that main calls, itself or by others."""
        found = ["main"]
        at = 0
        while at < len(found):
            called = self._functions.callees(found[at])
            for function in called:
                if function not in found:
                    found.append(function)
            at += 1
        return sorted(found)

    def with_kept(self, kept):
        """The Program with another list of what is kept."""
        return Program(self._functions, kept=kept, shut=list(self._shut))

    def with_shut(self, shut):
        """The Program with another list of what is shut."""
        return Program(self._functions, kept=list(self._kept), shut=shut)

    def with_more(self, kept, shut):
        """The Program in which these names are kept, and these places shut, besides what is so already."""
        return Program(self._functions, kept=list(self._kept) + kept, shut=list(self._shut) + shut)

    def check_kept(self, kept):
        """Raises BadKept for the first tuple of which there is no such name of such a function."""
        for function, name in kept:
            if not self._functions.has_name(function, name):
                raise BadKept(function, name)

    def has_all(self, kept, shut):
        """Whether there are all of these names and places, tuples as in what is kept, and shut."""
        names = [self._functions.has_name(function, name) for function, name in kept]
        return all(names) and all([self._functions.has_place(function, address) for function, address in shut])

    def has_function(self, thing):
        """Whether thing, any value, is the name of a function."""
        return is_name(thing) and thing in self._functions.whole

    def has_address(self, function, address):
        """Whether an address stands in a function."""
        return address in self._functions.spots[function]

    def addresses(self, function):
        """The ascending list of the addresses in a function, its end included."""
        return list(self._functions.spots[function])

    def spot(self, place):
        """The Spot at a place. Its statement is the Program's own, to be read only."""
        return self._functions.spots[place[0]][place[1]]

    def spot_at(self, function, address):
        """The same, for the two parts of a place."""
        return self._functions.spots[function][address]

    def names_at(self, function):
        """The ascending tuple of all names of a function that there is."""
        return self._functions.words[function]

    def loose_at(self, function):
        """The ascending tuple of the loose names of a function that there is."""
        return self._loose[function]

    def cell_index(self, cell):
        """The index of a cell among the ascending ones."""
        return self._indexes[cell]

    def is_shut(self, place):
        """Whether a place is shut."""
        return place in self._shut

    def _check_shut(self, shut):
        for function, address in shut:
            if not self._functions.has_place(function, address):
                raise BadShut(function, address)

    def _loose_of(self, function):
        return tuple([name for name in self._functions.words[function] if (function, name) not in self._kept])

    def _told_of(self, function):
        if function not in self._functions.whole:
            raise Unknown(function)
        return self._functions.whole[function]

    def __eq__(self, other):
        return (isinstance(other, Program) and self._functions.whole == other._functions.whole
                and self._kept == other._kept and self._shut == other._shut)


def are_kept(thing):
    """Whether thing, any value, has the form of what is kept."""
    return is_row(thing) and all([is_kept_item(item) for item in thing])


def are_shut(thing):
    """Whether thing, any value, has the form of what is shut."""
    return is_row(thing) and all([is_shut_item(item) for item in thing])


def is_kept_item(thing):
    """Whether thing, any value, is a tuple of two names."""
    return _is_pair(thing) and is_name(thing[1])


def is_shut_item(thing):
    """Whether thing, any value, is a tuple of a name and an address."""
    return _is_pair(thing) and is_address(thing[1])


def _is_pair(thing):
    """Whether thing is a tuple of a name and one more item."""
    return isinstance(thing, tuple) and len(thing) == 2 and is_name(thing[0])
