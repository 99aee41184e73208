"""Searches: the Harm of a Web to which the fewest steps lead, and a run with so few."""

from landedback.costs import Costs
from landedback.data import LANDINGS


class Search:
    """The search for a Harm with the fewest steps up to it, in a whole Web or what is left of one.

    steps is their number, its own included, or None if there is no Harm.
    """

    def __init__(self, web):
        self._web = web
        self._fewest = Costs(web)
        self._least = None
        self.steps = None
        for harm in web.harms:
            steps = self._fewest.of_harm(web, harm)
            if steps is not None and (self.steps is None or steps < self.steps):
                self._least = harm
                self.steps = steps

    def told_back(self):
        """The list of the data of a run to the Harm, which there is.

        The goals are what is still to be told, the last of them first; so the run comes back to front.
        """
        harm = self._least
        origin = (harm.row, harm.data, harm.end)
        goals = [("begin", self._web.homes[harm.row].at)] + _goals_of(origin, harm.data)
        found = []
        while len(goals) > 0:
            goal = goals.pop()
            if goal[0] == "data":
                found.append(goal[1])
            else:
                goals.extend(self._goals_within(goal))
        return found[::-1]

    def _goals_within(self, goal):
        """The list of the goals of which a goal consists, in the order of their steps."""
        if goal[0] == "begin":
            caller = self._fewest.begins[goal[1]][1]
            if caller is None:
                return []
            return [("begin", self._web.homes[caller].at), ("node", caller), ("data", ("go",))]
        origin = self._fewest.origins[goal[1]]
        if goal[0] == "node":
            return [] if origin is None else _goals_of(origin, origin[1])
        return _goals_of(origin, _with_back(origin, goal[2]))


def _goals_of(origin, data):
    """The goals of the steps from the begin of a call to what an origin leads to.

    They are ("node", row), the steps from the begin of its call to a row; ("data", data), one step; and
    ("end", end, names), the steps of a call to its end, at which these names come back.
    """
    row, _, end = origin
    if end is None:
        return [("node", row), ("data", data)]
    return [("node", row), ("data", ("go",)), ("end", end, data)]


def _with_back(origin, back):
    """The data of an origin of an end where these names come back."""
    _, data, end = origin
    if end is not None:
        return back
    return (data[0], back) if data[0] in LANDINGS else data
