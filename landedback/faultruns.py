"""Faultruns: whether a program is safe, and otherwise a run with a fault and the fewest steps."""

from landedback.data import LANDINGS
from landedback.errors import TooMany
from landedback.growth import Growth, begins_of
from landedback.runs import faults_of, is_run

MOST_STEPS = 200


def is_safe(program, *, most=1000):
    """Whether no run of a program has a fault."""
    return len(Growth(program, most=most, plain=False, nothing=False).harms) == 0


def fewest(program, *, most=1000, plain=False):
    """The number of steps of a shortest run whose last step has a fault, or None."""
    search = Search(program, most, plain)
    return None if search.harm is None else search.steps


def fault_run(program, *, most=1000, plain=False):
    """A shortest run whose last step has a fault, or None."""
    search = Search(program, most, plain)
    if search.harm is None:
        return None
    if search.steps > MOST_STEPS:
        raise TooMany(MOST_STEPS)
    return search.told_back()


def is_fault_run(program, thing):
    """Whether thing, any value, is a run of a program with a fault."""
    return is_run(program, thing) and len(faults_of(program, thing)) > 0


class Search:
    """The search for a fault with the fewest steps up to it: its Harm, or None, and the steps."""

    def __init__(self, program, most, plain):
        self._growth = Growth(program, most=most, plain=plain, nothing=False)
        self._begins = begins_of(self._growth)
        self.harm = None
        self.steps = 0
        for harm in self._growth.harms:
            steps = self._steps_to(harm)
            if self.harm is None or steps < self.steps:
                self.harm = harm
                self.steps = steps

    def _steps_to(self, harm):
        """The fewest steps of a run up to a harm, its own included."""
        origin = harm.origin
        steps = self._begins[origin.row[:2]][0] + self._growth.steps[origin.row] + 1
        return steps if origin.end is None else steps + self._growth.steps[origin.end]

    def told_back(self):
        """The list of the data of a run to the harm.

        The goals are what is still to be told, the last of them first; so the run comes back to front.
        """
        origin = self.harm.origin
        goals = [("begin", origin.row[:2])] + _goals_of(origin, origin.data)
        found = []
        while len(goals) > 0:
            goal = goals.pop()
            if goal[0] == "data":
                found.append(goal[1])
            else:
                goals.extend(self._goals_within(goal))
        return found[::-1]

    def _goals_within(self, goal):
        """The list of the goals of which a goal consists, in the order of their steps."""
        if goal[0] == "begin":
            caller = self._begins[goal[1]][1]
            return [] if caller is None else [("begin", caller[:2]), ("row", caller), ("data", ("go",))]
        origin = self._growth.origins[goal[1]]
        if goal[0] == "row":
            return [] if origin is None else _goals_of(origin, origin.data)
        return _goals_of(origin, _with_back(origin, goal[2]))


def _goals_of(origin, data):
    """The goals of the steps from the begin of a call to what an Origin leads to.

    They are ("row", row), the steps from the begin of its call to a row; ("data", data), one step; and
    ("end", end, names), the steps of a call to its end, at which these names come back.
    """
    if origin.end is None:
        return [("row", origin.row), ("data", data)]
    return [("row", origin.row), ("data", ("go",)), ("end", origin.end, data)]


def _with_back(origin, back):
    """The data of an Origin of an end where these names come back."""
    if origin.end is not None:
        return back
    return (origin.data[0], back) if origin.data[0] in LANDINGS else origin.data
