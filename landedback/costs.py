"""Costs: the fewest steps to all nodes of a Web, and the ways by which there are so few."""

from heapq import heappop, heappush

# More than there are nodes: steps and a number are one integer in a queue, steps * WIDE + number.
WIDE = 1000000000


class Costs:
    """The fewest steps of a whole Web, or of what is left of one; it is not changed once it is made.

    steps has, for each node, the fewest steps from the begin of its call to it, None if no way leads to it;
    origins has for each the last one of so many steps, as a tuple (row, data, end) like those of a Harm,
    None for the first row of a call. begins has, for each Frame, the tuple (steps, row) of the fewest steps with
    which such a call begins, and the row that calls it then, None for main; or None if there is no way.
    """

    def __init__(self, web):
        self.steps = [None] * len(web.nodes)
        self.origins = [None] * len(web.nodes)
        self.begins = [None] * len(web.frames)
        self._settled = [False] * len(web.nodes)
        # For each Frame the rows that call it, and its ends, as far as they are settled.
        self._callers = [[] for _ in web.frames]
        self._closed = [[] for _ in web.frames]
        self._queue = []
        if len(web.nodes) > 0:
            self._offer(0, 0, None)
        while len(self._queue) > 0:
            # Steps only add up; so no way to the least one in the queue is left that has fewer.
            number = heappop(self._queue) % WIDE
            if not self._settled[number]:
                self._settled[number] = True
                self._spread(web, number)
        self._begin_all(web)

    def _offer(self, number, steps, origin):
        """Takes up a way to a node if none with as few steps is known."""
        known = self.steps[number]
        if known is None or steps < known:
            self.steps[number] = steps
            self.origins[number] = origin
            heappush(self._queue, steps * WIDE + number)

    def _spread(self, web, number):
        """Takes up all to which a settled node leads."""
        steps = self.steps[number] + 1
        for other, data in web.edges[number]:
            self._offer(other, steps, (number, data, None))
        if number in web.called:
            frame = web.called[number]
            self._offer(frame.first, 0, None)
            self._callers[frame.at].append(number)
            for end in list(self._closed[frame.at]):
                self._join(web, number, end)
        elif len(web.nodes[number]) == 3:
            at = web.homes[number].at
            self._closed[at].append(number)
            for row in list(self._callers[at]):
                self._join(web, row, number)

    def _join(self, web, row, end):
        """Takes up all to which an end of the call leads that is called at a row."""
        steps = self.steps[row] + 1 + self.steps[end]
        for other, back in web.joints[row][end]:
            self._offer(other, steps, (row, back, end))

    def _begin_all(self, web):
        """Finds the fewest steps with which calls begin."""
        callees = [[] for _ in web.frames]
        for frame in list(web.frames.values()):
            for row in self._callers[frame.at]:
                callees[web.homes[row].at].append((frame.at, self.steps[row] + 1, row))
        queue = [(0, 0, -1)] if len(web.frames) > 0 else []
        while len(queue) > 0:
            steps, at, caller = heappop(queue)
            if self.begins[at] is None:
                self.begins[at] = (steps, None if caller < 0 else caller)
                for other, more, row in callees[at]:
                    heappush(queue, (steps + more, other, row))

    def of_harm(self, web, harm):
        """The fewest steps of a run up to a Harm, its own included; None if there is none."""
        begin = self.begins[web.homes[harm.row].at]
        steps = self.steps[harm.row]
        if begin is None or steps is None:
            return None
        if harm.end is None:
            return begin[0] + steps + 1
        more = self.steps[harm.end]
        return None if more is None else begin[0] + steps + 1 + more
