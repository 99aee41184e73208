"""Pushed: the raises at which the innermost open try was pushed out, and how many tries can be open at once."""

from landedback.errors import TooMany
from landedback.memory import recalled
from landedback.pushing import Pushing
from landedback.searches import Search
from landedback.webs import Web

MOST_STEPS = 200

# No program has so many rows.
UNBOUNDED = 1000000000


def pushed_raises(tried, many):
    """The ascending list of the places of raises to which runs come while the innermost open try was pushed out."""
    return sorted(set([harm.fault[1:] for harm in _web_of(tried, many).harms]))


def is_right(tried, many):
    """Whether there is no such raise."""
    return len(_web_of(tried, many).harms) == 0


def wrong_raise(tried, many):
    """A run with the fewest steps whose last step is such a raise, or None."""
    search = Search(_web_of(tried, many))
    if search.steps is None:
        return None
    if search.steps > MOST_STEPS:
        raise TooMany(MOST_STEPS)
    return search.told_back()


def most_open(tried):
    """("most", number) with the greatest number of tries open at once, or ("ring", functions) if there is none."""
    places = recalled(tried, "places", _find_places)
    calls = [(function, tried.spot((function, address)).item[2], len(tried.spot((function, address)).around))
             for function, address in places if tried.spot((function, address)).word == "call"]
    for caller, called, opened in calls:
        if opened > 0:
            path = _path(calls, called, caller)
            if path is not None:
                return ("ring", [caller] + path[:-1])
    depths = _depths(calls)
    return ("most", max([depths[function] + _opened_at(tried, (function, address)) for function, address in places]))


def _web_of(tried, many):
    """The Web of a program with tries, for so many pushing cells."""
    key = ("web", many)
    if key not in tried.memory:
        web = Web()
        web.grow(Pushing(tried, many), UNBOUNDED)
        tried.memory[key] = web
    return tried.memory[key]


def _find_places(tried):
    """The ascending list of the places to which a run can come, be the number of pushing cells what it may."""
    web = _web_of(tried, 1)
    rows = [web.nodes[number] for number in web.row_numbers]
    return sorted(set([(row[0], row[2]) for row in rows]))


def _opened_at(tried, place):
    """How many tries of its call are open at a place, or within the step there."""
    spot = tried.spot(place)
    return len(spot.around) + (1 if spot.word == "try" else 0)


def _path(calls, begin, end):
    """The list of functions from one to another each of which calls the next one; None if there is none."""
    paths = {begin: [begin]}
    todo = [begin]
    while len(todo) > 0 and end not in paths:
        ahead = todo
        todo = []
        for caller, called, _ in calls:
            if caller in ahead and called not in paths:
                paths[called] = paths[caller] + [called]
                todo.append(called)
    return paths.get(end, None)


def _depths(calls):
    """The dict from functions to the greatest number of tries that are open when they are called.

    Calls in rings stand in no tries here; so the numbers do not rise for ever.
    """
    depths = {"main": 0}
    rises = True
    while rises:
        rises = False
        for caller, called, opened in calls:
            if caller in depths and depths.get(called, -1) < depths[caller] + opened:
                depths[called] = depths[caller] + opened
                rises = True
    return depths
