"""Repairs: sets of names to be kept and of places to be shut, and those of them that are open."""

from landedback.errors import Wrong
from landedback.following import web_of
from landedback.comings import broken_places, landed_functions
from landedback.memory import recalled
from landedback.programs import are_kept, are_shut, is_kept_item, is_shut_item


class Repair:
    """A set of tuples (function, name) to be kept, and of places to be shut; it never changes."""

    def __init__(self, kept=(), shut=()):
        if not are_kept(kept):
            raise Wrong(0)
        if not are_shut(shut):
            raise Wrong(1)
        self._kept = sorted(set(kept))
        self._shut = sorted(set(shut))
        self._items = self._kept + self._shut

    def kept(self):
        """The ascending list of what is to be kept."""
        return list(self._kept)

    def shut(self):
        """The ascending list of what is to be shut."""
        return list(self._shut)

    def within(self, other):
        """Whether all items are in the other Repair, too."""
        return all([item in other._items for item in self._items])

    def __or__(self, other):
        if not isinstance(other, Repair):
            return NotImplemented
        return Repair(self._kept + other._kept, self._shut + other._shut)

    def __and__(self, other):
        if not isinstance(other, Repair):
            return NotImplemented
        return Repair([item for item in self._kept if item in other._kept],
                      [item for item in self._shut if item in other._shut])

    def __sub__(self, other):
        if not isinstance(other, Repair):
            return NotImplemented
        return Repair([item for item in self._kept if item not in other._kept],
                      [item for item in self._shut if item not in other._shut])

    def __eq__(self, other):
        return isinstance(other, Repair) and self._items == other._items

    def __contains__(self, thing):
        # The form is looked at first, since truths are equal to 1 and 0.
        return (is_kept_item(thing) or is_shut_item(thing)) and thing in self._items

    def __bool__(self):
        return bool(self._items)

    def __len__(self):
        return len(self._items)


def repaired(program, repair):
    """The Program in which the items of a Repair are kept, and shut, besides what is so already."""
    return program.with_more(repair.kept(), repair.shut())


def open_items(program, *, most=1000):
    """The Repair of all that can matter: loose names where a landing comes, places where a break-in comes."""
    web_of(program, most)
    return recalled(program, "open items", _find_open)


def _find_open(program):
    names = [(function, name) for function in landed_functions(program) for name in program.loose_names(function)]
    return Repair(names, broken_places(program))
