"""Growth: the least table of a program, and the fewest steps to all that stands in it.

A thing in it is a row, or an end: a tuple (function, entry, outcome). A pair is a tuple
(function, entry).
"""

from heapq import heappop, heappush

from landedback.errors import TooMany
from landedback.moves import item_at, leaves, moves
from landedback.returns import returns
from landedback.rows import begin_entry, begin_row
from landedback.steps import called, passing


class Origin:
    """By what a thing is come to: from a row of the same call, by a step with these data.

    If it is come to by the call that is called at the row, end is the end of this call, and data
    are the tuple of the names that come back at its landing; otherwise end is None.
    """

    def __init__(self, row, data, end):
        self.row = row
        self.data = data
        self.end = end


class Harm:
    """A fault, (word, function, address), and the Origin of the step that has it."""

    def __init__(self, fault, origin):
        self.fault = fault
        self.origin = origin


class Growth:
    """The least table of a program; it never changes once it is made.

    steps has the fewest steps from the begin of its call to each thing, origins an Origin by which
    there are so few, None for the row of a begin; callers has the list of the rows that call each
    pair, ends that of its outcomes; harms has all faults.
    """

    def __init__(self, program, *, most, plain, nothing):
        self._program = program
        self._most = most
        self._plain = plain
        self._queue = []
        self._pushed = 0
        self._many = 0
        self._settled = {}
        self.first = ("main", begin_entry(program, nothing=nothing))
        self.steps = {}
        self.origins = {}
        self.callers = {}
        self.ends = {}
        self.harms = []
        self._begin(self.first)
        while len(self._queue) > 0:
            # Steps only add up; so no way to the least one in the queue is left that has fewer.
            _, _, thing = heappop(self._queue)
            if thing not in self._settled:
                self._settled[thing] = True
                self._spread(thing)

    def found_rows(self):
        """The ascending list of the rows."""
        return sorted([thing for thing in self.steps if is_row_thing(thing)])

    def _begin(self, pair):
        """Takes up a call that begins so."""
        if pair not in self.callers:
            self.callers[pair] = []
            self.ends[pair] = []
            self._offer(begin_row(self._program, pair[0], pair[1]), 0, None)

    def _offer(self, thing, steps, origin):
        """Takes up a way to a thing if none with as few steps is known."""
        if thing in self.steps:
            if self.steps[thing] <= steps:
                return
        elif is_row_thing(thing):
            self._many += 1
            if self._many > self._most:
                raise TooMany(self._most)
        self.steps[thing] = steps
        self.origins[thing] = origin
        # The number ahead of the thing keeps a row from being compared with an end.
        self._pushed += 1
        heappush(self._queue, (steps, self._pushed, thing))

    def _spread(self, thing):
        """Takes up all to which a settled thing leads."""
        if not is_row_thing(thing):
            pair = thing[:2]
            self.ends[pair].append(thing[2])
            for row in self.callers[pair]:
                self._join(row, thing)
            return
        self._spread_steps(thing)
        item = item_at(self._program, thing)
        if item is not None and item[0] == "call":
            pair = called(self._program, thing)
            self._begin(pair)
            self.callers[pair].append(thing)
            for outcome in self.ends[pair]:
                self._join(thing, pair + (outcome,))

    def _spread_steps(self, row):
        steps = self.steps[row] + 1
        for data, behind, fault in moves(self._program, row, self._plain):
            self._lead(row, behind, fault, steps, Origin(row, data, None))
        for data, outcome in leaves(self._program, row):
            self._offer(row[:2] + (outcome,), steps, Origin(row, data, None))

    def _join(self, row, end):
        """Takes up all to which an end of the call leads that is called at a row."""
        steps = self.steps[row] + 1 + self.steps[end]
        for back, behind, fault in returns(self._program, row, end[2], self._plain):
            self._lead(row, behind, fault, steps, Origin(row, back, end))
        passed = passing(self._program, row, end[2])
        if passed is not None:
            self._offer(row[:2] + (passed,), steps, Origin(row, (), end))

    def _lead(self, row, behind, fault, steps, origin):
        if fault is None:
            self._offer(behind, steps, origin)
        else:
            self.harms.append(Harm((fault[0], row[0], fault[1]), origin))


def is_row_thing(thing):
    """Whether a thing in a Growth is a row, not an end."""
    return len(thing) == 4


def begin_steps(growth):
    """The dict from all pairs to the fewest steps of a run with which such a call begins."""
    return {pair: steps for pair, (steps, _) in begins_of(growth).items()}


def begins_of(growth):
    """The dict from all pairs to tuples (steps, row): the fewest with which such a call begins, the row that calls it.

    The row is None for the call of main with which all runs begin.
    """
    below = {pair: [] for pair in growth.callers}
    for pair in growth.callers:
        for row in growth.callers[pair]:
            below[row[:2]].append((pair, growth.steps[row] + 1, row))
    queue = [(0, 0, growth.first, None)]
    pushed = 0
    found = {}
    while len(queue) > 0:
        steps, _, pair, caller = heappop(queue)
        if pair not in found:
            found[pair] = (steps, caller)
            for other, more, row in below[pair]:
                pushed += 1
                heappush(queue, (steps + more, pushed, other, row))
    return found
