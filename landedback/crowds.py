"""Crowds: sets of repairs that are made of the same few items.

A repair is a number here: the sum of 1 << i for its items, which are counted from 0. A crowd is an integer
likewise: the sum of 1 << r for the repairs r in it. So all of them are looked at by one step of arithmetic.
"""


class Crowds:
    """The crowds of repairs of so many items; size is the number of the repairs, every has all of them."""

    def __init__(self, many):
        self.size = 1 << many
        self.every = (1 << self.size) - 1
        self._lacking = [_lacking(at, self.size) for at in range(many)]
        self._spared = {0: self.every}

    def sparing(self, repair):
        """The crowd of those that have no item of a repair."""
        if repair not in self._spared:
            crowd = self.every
            for at, lacking in enumerate(self._lacking):
                if repair >> at & 1 == 1:
                    crowd = crowd & lacking
            self._spared[repair] = crowd
        return self._spared[repair]

    def inside(self, repair):
        """The crowd of those that have items of a repair alone."""
        return self.sparing(self.size - 1 - repair)

    def above(self, repair):
        """The crowd of those that have all items of a repair."""
        crowd = self.every
        for at, lacking in enumerate(self._lacking):
            if repair >> at & 1 == 1:
                crowd = crowd & (self.every - lacking)
        return crowd

    def least(self, crowd):
        """The list of those in a crowd that would not be in it if any item were left out.

        With more items, all that are in the crowd stay in it.
        """
        more = 0
        for at, lacking in enumerate(self._lacking):
            more = more | (crowd & lacking) << (1 << at)
        return self._members(crowd & (self.every - more))

    def greatest(self, crowd):
        """The list of those in a crowd that would not be in it with any other item.

        With fewer items, all that are in the crowd stay in it.
        """
        fewer = 0
        for at, lacking in enumerate(self._lacking):
            fewer = fewer | (crowd & (self.every - lacking)) >> (1 << at)
        return self._members(crowd & (self.every - fewer))

    def _members(self, crowd):
        return [repair for repair in range(self.size) if crowd >> repair & 1 == 1]


def _lacking(at, size):
    """The crowd of those of so many repairs that lack an item."""
    run = 1 << at
    crowd = (1 << run) - 1
    while 2 * run < size:
        crowd = crowd | crowd << 2 * run
        run = 2 * run
    return crowd
