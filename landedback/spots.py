"""Spots: what stands at the addresses of a body, and where each of them leads."""

from landedback.statements import inner_bodies


class Spot:
    """One address of a function; it is never changed.

    item is what stands there, None at the end of the function, and word the word of it, "" at the
    end; behind is the address to which the statement leads once it is done; doors has an address for
    each of its bodies, the one to which a step into that body leads; ways has the tuples (data,
    address) of its steps that stay in the call, landings left aside. around has the addresses of the
    tries in whose bodies, those that are tried, it stands, the innermost first.
    """

    def __init__(self, item, behind, doors, around=()):
        self.item = item
        self.word = "" if item is None else item[0]
        self.behind = behind
        self.doors = doors
        self.ways = _ways(self.word, behind, doors)
        self.around = around


def _ways(word, behind, doors):
    if word in ("", "call", "jump", "raise"):
        return ()
    if word == "either":
        return tuple([(("body", b), door) for b, door in enumerate(doors)])
    if word == "loop":
        return ((("body", 0), doors[0]), (("go",), behind))
    if word in ("mark", "try"):
        return ((("go",), doors[0]),)
    return ((("go",), behind),)


def items_of(body, fits, ahead=()):
    """The list of the tuples (address, item) of a body of any items, addresses ascending.

    What does not fit, by a function that tells whether it has the form of a statement, has no
    bodies, whatever it contains.
    """
    found = []
    for at, item in enumerate(body):
        address = ahead + (at,)
        found.append((address, item))
        if fits(item):
            for b, inner in enumerate(inner_bodies(item)):
                found.extend(items_of(inner, fits, address + (b,)))
    return found


def spots_of(body):
    """The dict from the addresses of a function with this body, ascending, to their Spots."""
    end = (len(body),)
    spots = {address: spot for address, spot in _spread(body, (), end, ())}
    spots[end] = Spot(None, None, ())
    return spots


def _spread(body, ahead, last, around):
    """The list of the tuples (address, Spot) of a body behind which last is the next address."""
    found = []
    for at, statement in enumerate(body):
        address = ahead + (at,)
        behind = ahead + (at + 1,) if at + 1 < len(body) else last
        inner = inner_bodies(statement)
        back = address if statement[0] == "loop" else behind
        doors = [address + (b, 0) if len(inside) > 0 else back for b, inside in enumerate(inner)]
        found.append((address, Spot(statement, behind, tuple(doors), around)))
        for b, inside in enumerate(inner):
            tried = statement[0] == "try" and b == 0
            found.extend(_spread(inside, address + (b,), back, (address,) + around if tried else around))
    return found
