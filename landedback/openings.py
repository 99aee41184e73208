"""Openings: the data that the next step of a run may have."""

from landedback.data import LANDINGS, bare, coming_back, is_data, parts_of
from landedback.moments import aim, is_last, statement_of


def openings(program, moment):
    """The list of the data of all steps at a moment in which nothing comes back."""
    if is_last(moment):
        return []
    statement = statement_of(program, moment)
    found = own_openings(statement)
    if moment.alarm is not None and not program.is_shut(moment.stack[-1].stands):
        found.append(("break", ()))
        if statement is not None and statement[0] == "get":
            found.append(("within", ()))
    return found


def own_openings(statement):
    """The list of those of a statement, or of an end, break-ins left aside."""
    if statement is None:
        return [("go",)]
    if statement[0] == "either":
        return [("body", b) for b in range(len(statement[1]))]
    if statement[0] == "loop":
        return [("body", 0), ("go",)]
    if statement[0] == "jump":
        return [("jump", ())]
    return [("go",)]


def loose_at(program, moment, data):
    """The list of the names that may come back by a step with these data."""
    mark = aim(program, moment, data)
    return [] if mark is None else program.loose_names(mark.stands[0])


def wanted_data(program, moment):
    """The ascending list of all data that the step at a moment may have."""
    found = []
    for opening in openings(program, moment):
        if opening[0] in LANDINGS:
            names = loose_at(program, moment, opening)
            found.extend([(opening[0], part) for part in parts_of(names)])
        else:
            found.append(opening)
    return sorted(found)


def fits(program, moment, thing):
    """Whether thing, any value, is among the wanted data of a moment."""
    if not is_data(thing) or bare(thing) not in openings(program, moment):
        return False
    if len(coming_back(thing)) == 0:
        return True
    names = loose_at(program, moment, thing)
    return all([name in names for name in coming_back(thing)])
