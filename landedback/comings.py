"""Comings: where landings and break-ins come. The Web of the program, which tells it, was made whole before."""

from landedback.data import LANDINGS
from landedback.following import whole_web
from landedback.memory import recalled


def landed_functions(program):
    """The ascending list of the functions in a call of which a landing can come; to be read only."""
    return recalled(program, "landed functions", _find_functions)


def broken_places(program):
    """The ascending list of the places ahead of which a break-in can come; to be read only."""
    return recalled(program, "broken places", _find_places)


def armed_places(program):
    """The ascending list of the places at which the call at work can stand while a cell is armed; to be read only."""
    return recalled(program, "armed places", _find_armed)


def _find_functions(program):
    """A landing with a fault is one with none if another thing is followed; so harms need not be looked at."""
    web = whole_web(program)
    found = set()
    for number in web.row_numbers:
        function = web.nodes[number][0]
        if function not in found and (_lands(web, number) or _is_landed_at(web, number)):
            found.add(function)
    return sorted(found)


def _lands(web, number):
    """Whether a step of a row is a landing in the row's call."""
    return any([data[0] in LANDINGS and len(web.nodes[other]) == 4 for other, data in web.edges[number]])


def _is_landed_at(web, number):
    """Whether a landing in the call of a row comes from the call that is called at it."""
    if number not in web.joints:
        return False
    joints = web.joints[number]
    ends = [end for end in joints if web.nodes[end][2][0] == "jump"]
    return any([len(web.nodes[other]) == 4 for end in ends for other, _ in joints[end]])


def _find_places(program):
    """A break-in is a step of the row, be it a fault, to a row, or to an end."""
    return [place for place in armed_places(program) if not program.is_shut(place)]


def _find_armed(program):
    web = whole_web(program)
    rows = [web.nodes[number] for number in web.row_numbers]
    return sorted(set([(row[0], row[2]) for row in rows if row[3][3] != ""]))
