"""Followed: the rows in which the call at work of a run stands, as one thing, or nothing, is followed."""

from landedback.machine import Machine


class Sight:
    """What is seen of the followed thing at a moment of a run.

    h is as in a row; stack has the tuples (place, names that have it) of the calls; seen has what
    each cell tells: None, "ended", or (call, address, saved ones that have it); alarm is the armed
    cell or the empty string.
    """

    def __init__(self, machine, thing):
        words = machine.things()
        if thing is None:
            self.h = "nothing"
        else:
            self.h = words[thing] if thing < len(words) else "new"
        self.stack = [(place, _having(held, thing)) for place, held in machine.calls()]
        cells = machine.cells()
        self.seen = [_seen_of(cells[cell], thing) for cell in cells]
        armed = machine.armed()
        self.alarm = "" if armed is None else armed


class Begin:
    """How a call began: its entry, and what was seen of the cells then."""

    def __init__(self, entry, seen):
        self.entry = entry
        self.seen = seen


def rows_of(program, run, thing):
    """The list of the rows of the moments of a run, up to an end of main, a fall or a fault of the thing."""
    machine = Machine(program)
    sight = Sight(machine, thing)
    begins = [_begin(program, sight)]
    found = [_row(sight, begins[0])]
    for data in run:
        faults = machine.step(data)
        if machine.is_over() or any([fault[3] == thing for fault in faults]):
            return found
        sight = Sight(machine, thing)
        many = len(sight.stack)
        if many > len(begins):
            begins.append(_begin(program, sight))
        begins = begins[:many]
        found.append(_row(sight, begins[-1]))
    return found


def row_of(program, run, thing):
    """The last one of the rows of a run if there is one for each moment of it, otherwise None."""
    found = rows_of(program, run, thing)
    return found[-1] if len(found) == len(run) + 1 else None


def _having(held, thing):
    """The ascending tuple of the names that have it."""
    return tuple([name for name in held if held[name] == thing])


def _seen_of(telling, thing):
    if isinstance(telling, tuple):
        call, address, saved = telling
        return (call, address, _having(saved, thing))
    return telling


def _begin(program, sight):
    """How the call at work began if it begins at this moment."""
    place, names = sight.stack[-1]
    parameters = program.parameters(place[0])
    passed = tuple([at for at, name in enumerate(parameters) if name in names])
    waiting = [having for _, having in sight.stack[:-1] if len(having) > 0]
    outside = sight.h in ("live", "gone") and len(waiting) > 0
    told = tuple([_told(sight, seen, sight.seen) for seen in sight.seen])
    return Begin((sight.h, passed, outside, told, sight.alarm), sight.seen)


def _row(sight, begin):
    """The row in which the call at work stands that began so."""
    place, names = sight.stack[-1]
    told = tuple([_told(sight, seen, begin.seen) for seen in sight.seen])
    return (place[0], begin.entry, place[1], (sight.h, names, told, sight.alarm))


def _told(sight, seen, ahead):
    """What a cell tells, in the words of the call at work; ahead is what was seen when it began."""
    if seen is None:
        return ("nothing",)
    if not isinstance(seen, tuple):
        return ("ended",)
    call, address, saved = seen
    if call == len(sight.stack) - 1:
        return ("mine", address, saved)
    return ("outer", ahead.index(seen))
