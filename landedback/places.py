"""Places: where a call of a program can stand, and where it goes from there."""

from landedback.statements import fresh


def all_places(program):
    """The ascending list of all places of a program, the ends of functions included."""
    return [(function, address) for function in program.functions() for address in program.addresses(function)]


def statement_at(program, place):
    """The statement at a place, or None at an end."""
    statement = program.spot(place).item
    if statement is None:
        return None
    return fresh(statement)


def after(program, place):
    """The place to which the statement at a place leads once it is done."""
    return (place[0], program.spot(place).behind)


def entered(program, place, b):
    """The place to which a step into a body of the statement at a place leads."""
    return (place[0], program.spot(place).doors[b])


def ways(program, place):
    """The ascending list of the places to which a step of the statement at a place leads."""
    return [(place[0], address) for address in sorted(set(_next_addresses(program.spot(place))))]


def _next_addresses(spot):
    if spot.item is None or spot.item[0] == "jump":
        return []
    if spot.item[0] == "either":
        return list(spot.doors)
    if spot.item[0] == "loop":
        return [spot.doors[0], spot.behind]
    if spot.item[0] == "mark":
        return [spot.doors[0]]
    return [spot.behind]
