"""Spots: what stands at the addresses of a body, and where each of them leads."""

from landedback.statements import inner_bodies, is_form


class Spot:
    """One address of a function; it is never changed.

    item is what stands there, None at the end of the function; behind is the address to
    which the statement leads once it is done; doors has an address for each of its bodies, the
    one to which a step into that body leads.
    """

    def __init__(self, item, behind, doors):
        self.item = item
        self.behind = behind
        self.doors = doors


def items_of(body, ahead=()):
    """The list of the tuples (address, item) of a body of any items, addresses ascending.

    What has not the form of a statement has no bodies, whatever it contains.
    """
    found = []
    for at, item in enumerate(body):
        address = ahead + (at,)
        found.append((address, item))
        if is_form(item):
            for b, inner in enumerate(inner_bodies(item)):
                found.extend(items_of(inner, address + (b,)))
    return found


def spots_of(body):
    """The dict from the addresses of a function with this body, ascending, to their Spots."""
    end = (len(body),)
    spots = {address: spot for address, spot in _spread(body, (), end)}
    spots[end] = Spot(None, None, ())
    return spots


def _spread(body, ahead, last):
    """The list of the tuples (address, Spot) of a body behind which last is the next address."""
    found = []
    for at, statement in enumerate(body):
        address = ahead + (at,)
        behind = ahead + (at + 1,) if at + 1 < len(body) else last
        back = address if statement[0] == "loop" else behind
        inner = inner_bodies(statement)
        doors = [address + (b, 0) if len(inside) > 0 else back for b, inside in enumerate(inner)]
        found.append((address, Spot(statement, behind, tuple(doors))))
        for b, inside in enumerate(inner):
            found.extend(_spread(inside, address + (b,), back))
    return found
