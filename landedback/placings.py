"""Placings: callables that tell which names come back at a landing."""

from landedback.data import are_ascending, coming_back
from landedback.errors import BadPlacing, Broken, Wrong
from landedback.kinds import is_address, is_name, is_row
from landedback.machine import Machine


class Placing:
    """Tells the names that stand in a table for the mark; it never changes."""

    def __init__(self, table):
        if not _is_table(table):
            raise Wrong(0)
        self._table = {place: list(table[place]) for place in table}
        self._all = False

    @staticmethod
    def nothing():
        """The Placing by which nothing comes back."""
        return Placing({})

    @staticmethod
    def everything():
        """The Placing by which all names come back."""
        made = Placing({})
        made._all = True
        return made

    def __call__(self, function, address, names):
        if self._all:
            return tuple(names)
        found = self._table.get((function, address), [])
        return tuple([name for name in names if name in found])


def placed(program, choices, placing):
    """The Machine behind the steps with these data, where placing tells what comes back."""
    machine = Machine(program)
    for at, choice in enumerate(list(choices)):
        if not machine.can(choice) or coming_back(choice) != ():
            raise Broken(at)
        place = machine.landing(choice)
        if place is None:
            machine.step(choice)
        else:
            loose = tuple(program.loose_names(place[0]))
            told = placing(place[0], place[1], loose)
            if not are_ascending(told) or not all([name in loose for name in told]):
                raise BadPlacing(at)
            machine.step((choice[0], told))
    return machine


def _is_table(thing):
    if not isinstance(thing, dict) or not all([_is_mark_place(place) for place in thing]):
        return False
    return all([_are_different_names(thing[place]) for place in thing])


def _is_mark_place(thing):
    return isinstance(thing, tuple) and len(thing) == 2 and is_name(thing[0]) and is_address(thing[1])


def _are_different_names(thing):
    return is_row(thing) and all([is_name(name) for name in thing]) and len(set(thing)) == len(thing)
