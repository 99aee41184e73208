"""Schemes: programs in which tries are made to marks, and what their runs do."""

from landedback.errors import Broken, Over, Unfit
from landedback.programs import Program
from landedback.tries import Trying

GO = ("go",)


def scheme(tried, many):
    """The Program in which the tries are marks, with so many pushing cells, and the raises are jumps."""
    functions = tried.functions()
    return Program({name: _marked_function(functions[name], many) for name in functions})


def place_in(tried, many, place):
    """The place in the scheme of the statement, or the end, that stands for the one at a place."""
    function, address = place
    found = []
    for at in range(0, len(address), 2):
        if at > 0:
            found.append(address[at - 1])
        found.append(address[at] + _shift(tried, many, function, address[:at + 1]))
    return (function, tuple(found))


def led(tried, many, run):
    """The list of the data of the steps of the scheme that do the same as those of a run, nothing coming back."""
    trying = Trying(tried)
    # Of so many of the open tries, the last ones begun, the pushing cells still tell.
    known = 0
    found = []
    for at, data in enumerate(list(run)):
        place = trying.here()
        word = "" if place is None else tried.spot(place).word
        ahead = len(trying.opened())
        _step(trying, at, data)
        if word == "raise":
            found.append(("jump", ()))
            if ahead > 0 and known == 0:
                return found
        else:
            found.extend([GO] * (many - 1) + [data] if word == "try" else [data])
        begun = 1 if word == "try" else 0
        closed = ahead + begun - len(trying.opened())
        known = max(min(known + begun, many) - closed, 0)
        found.extend([GO] * (closed * len(_back(many))))
    return found


def _step(trying, at, data):
    """Does the step with the number at."""
    try:
        trying.step(data)
    except (Over, Unfit):
        raise Broken(at) from None


def _back(many):
    """The statements by which the cells tell again what they told ahead of a try."""
    if many == 2:
        return [("move", "ca", "cb"), ("move", "cb", "none")]
    return [("move", "ca", "none")]


def _marked_function(function, many):
    parameters, body, result = function
    return (parameters, _marked_body(body, many), result)


def _marked_body(body, many):
    return [made for statement in body for made in _marked(statement, many)]


def _marked(statement, many):
    """The list of the statements that stand for one."""
    word = statement[0]
    if word == "raise":
        return [("jump", "ca")]
    if word == "either":
        return [(word, [_marked_body(body, many) for body in statement[1]])]
    if word == "loop":
        return [(word, _marked_body(statement[1], many))]
    if word == "try":
        body = _marked_body(statement[1], many) + _back(many)
        mark = ("mark", "ca", body, _back(many) + _marked_body(statement[2], many))
        return [("move", "cb", "ca"), mark] if many == 2 else [mark]
    return [statement]


def _shift(tried, many, function, address):
    """By how much a statement, or an end, stands farther behind in its body in the scheme."""
    shift = 0
    if many == 2:
        # A move stands ahead of each try up to this one.
        siblings = [address[:-1] + (at,) for at in range(address[-1] + 1)]
        shift = len([other for other in siblings if tried.spot((function, other)).word == "try"])
    if len(address) > 1 and address[-2] == 1 and tried.spot((function, address[:-2])).word == "try":
        shift += len(_back(many))
    return shift
