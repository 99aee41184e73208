"""Webs: all to which rules lead, from call to call, numbered, and all steps between.

A node is a row, a tuple with the function and the entry ahead of two other items, or an end: a tuple
(function, entry, outcome). Rules are an object with the methods of Following; a Web does not look into
entries and outcomes, nor into what else a row has.
"""

from landedback.errors import TooMany


class Frame:
    """A call that begins with an entry: first is the number of its first row.

    callers has the numbers of the rows that call it so, closed those of the ends that it was found to have.
    """

    def __init__(self, at, pair):
        self.at = at
        self.pair = pair
        self.first = None
        self.callers = []
        self.closed = []


class Harm:
    """A fault, (word, function, address), and its step: from the row with this number, by these data.

    If the fault comes of the end of the call that is called at the row, end is the number of this end,
    and data are the names that come back; otherwise end is None.
    """

    def __init__(self, fault, row, data, end):
        self.fault = fault
        self.row = row
        self.data = data
        self.end = end


class Web:
    """The least table of a program by some rules, perhaps not whole yet; it only grows.

    nodes has the rows and ends by their numbers, numbers the other way about; row_numbers has the numbers of
    the rows; homes has the Frame of each node. frames has the Frames by tuples (function, entry). edges has,
    for each node, the tuples (number, data) of the steps of a row; called has the Frames called at rows; joints
    has, for rows that call, the dicts from the numbers of the ends of the call to lists of tuples (number, names
    that come back). harms has the Harms.
    """

    def __init__(self):
        self.nodes = []
        self.numbers = {}
        self.row_numbers = []
        self.homes = []
        self.frames = {}
        self.edges = []
        self.called = {}
        self.joints = {}
        self.harms = []
        self._todo = []

    def grow(self, rules, most):
        """Takes up all to which the rules lead, always the same ones; raises TooMany if there are more rows than most.

        What was found stays so: it is looked at again, or taken up from there, by a later call.
        """
        if len(self.frames) == 0:
            self._frame_of(rules, rules.opening())
        while len(self._todo) > 0 and len(self.row_numbers) <= most:
            self._spread(rules, self._todo.pop())
        if len(self.row_numbers) > most:
            raise TooMany(most)

    def seek_harm(self, rules):
        """Whether there is a Harm; no more is taken up than has to be."""
        if len(self.frames) == 0:
            self._frame_of(rules, rules.opening())
        while len(self._todo) > 0 and len(self.harms) == 0:
            self._spread(rules, self._todo.pop())
        return len(self.harms) > 0

    def _frame_of(self, rules, pair):
        """The Frame of a call that begins so."""
        if pair not in self.frames:
            frame = Frame(len(self.frames), pair)
            self.frames[pair] = frame
            frame.first = self._row(frame, rules.begun(pair))
        return self.frames[pair]

    def _row(self, frame, row):
        """The number of a row of such a call."""
        many = len(self.nodes)
        number = self.numbers.setdefault(row, many)
        if number == many:
            self.row_numbers.append(number)
            self._take(frame, row, number)
        return number

    def _end(self, frame, outcome):
        """The number of the end of such a call with this outcome."""
        many = len(self.nodes)
        end = frame.pair + (outcome,)
        number = self.numbers.setdefault(end, many)
        if number == many:
            self._take(frame, end, number)
        return number

    def _take(self, frame, node, number):
        self.nodes.append(node)
        self.homes.append(frame)
        self.edges.append([])
        self._todo.append(number)

    def _spread(self, rules, number):
        """Takes up all to which a node leads."""
        node = self.nodes[number]
        frame = self.homes[number]
        if len(node) == 3:
            frame.closed.append(number)
            for row in list(frame.callers):
                self._join(rules, row, number)
            return
        stays, goes, pair = rules.led_from(node)
        edges = self.edges[number]
        for data, behind, fault in stays:
            if fault is None:
                edges.append((self._row(frame, behind), data))
            else:
                self._hurt(frame, fault, number, data, None)
        for data, outcome in goes:
            edges.append((self._end(frame, outcome), data))
        if pair is not None:
            self._call(rules, number, pair)

    def _call(self, rules, number, pair):
        """Takes up the call that is called at a row."""
        frame = self._frame_of(rules, pair)
        self.called[number] = frame
        self.joints[number] = {}
        frame.callers.append(number)
        for end in list(frame.closed):
            self._join(rules, number, end)

    def _join(self, rules, number, end):
        """Takes up all to which an end of the call leads that is called at a row."""
        frame = self.homes[number]
        behinds, passed = rules.joined(self.nodes[number], self.nodes[end][2])
        found = []
        for back, behind, fault in behinds:
            if fault is None:
                found.append((self._row(frame, behind), back))
            else:
                self._hurt(frame, fault, number, back, end)
        if passed is not None:
            found.append((self._end(frame, passed), ()))
        self.joints[number][end] = found

    def _hurt(self, frame, fault, row, data, end):
        self.harms.append(Harm((fault[0], frame.pair[0], fault[1]), row, data, end))
