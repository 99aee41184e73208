"""Pushing: the rules by which it is followed how many of the open tries the pushing cells still tell.

A row is a tuple (function, entry, address, known), known being how many of the open tries are not
pushed out: always those that began last. An entry is a tuple (known, waiting): what is known when the
call begins, and whether a try of a call that waits is open. An outcome is ("end", known), or
("raise", known) for a raise that closes a try of a call that waits.
"""

GO = ("go",)


class Pushing:
    """The rules for runs of a program with tries, for so many pushing cells.

    The Harms to which they lead are the raises at which the innermost open try was pushed out.
    """

    def __init__(self, tried, many):
        self._tried = tried
        self._many = many

    def opening(self):
        """The tuple (function, entry) of the call of main."""
        return ("main", (0, False))

    def begun(self, pair):
        """The row in which a call begins."""
        return (pair[0], pair[1], (0,), pair[1][0])

    def led_from(self, row):
        """The steps of a row that stay in its call, and those that end it; and the call that is called at it."""
        function, entry, address, known = row
        spot = self._tried.spot((function, address))
        if spot.word == "":
            return ([], [] if function == "main" else [(GO, ("end", known))], None)
        if spot.word == "call":
            return ([], [], (spot.item[2], (known, entry[1] or len(spot.around) > 0)))
        if spot.word == "raise":
            return self._raised(row, spot)
        opened = len(spot.around)
        if spot.word == "try":
            opened = opened + 1
            known = min(known + 1, self._many)
        return ([(data, self._row_at(row, to, opened, known), None) for data, to in spot.ways], [], None)

    def joined(self, row, outcome):
        """To what an outcome of the call at a row leads in the row's call, and the outcome of this one that it is."""
        spot = self._tried.spot((row[0], row[2]))
        if outcome[0] == "end":
            return ([((), self._row_at(row, spot.behind, len(spot.around), outcome[1]), None)], None)
        if len(spot.around) > 0:
            return ([((), self._landed(row, spot, outcome[1]), None)], None)
        return ([], outcome)

    def _raised(self, row, spot):
        """The steps of a raise; one at which the innermost open try was pushed out goes on as others do, too."""
        waiting = row[1][1]
        opened = len(spot.around) > 0
        stays = [(GO, self._landed(row, spot, row[3]), None)] if opened else []
        if row[3] == 0 and (opened or waiting):
            stays.append((GO, None, ("pushed", row[2])))
        return (stays, [(GO, ("raise", row[3]))] if waiting and not opened else [], None)

    def _landed(self, row, spot, known):
        """The row behind a raise that closes the innermost try around a spot."""
        door = self._tried.spot((row[0], spot.around[0])).doors[1]
        return self._row_at(row, door, len(spot.around), known)

    def _row_at(self, row, address, opened, known):
        """The row of the same call at an address, to which it comes from where so many of its tries are open."""
        closed = opened - len(self._tried.spot((row[0], address)).around)
        return (row[0], row[1], address, max(known - closed, 0))
