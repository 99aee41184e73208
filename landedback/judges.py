"""Judges: of all repairs made of the open items of a program, which make it safe.

The runs of a repaired program are those of the program in which no name comes back that is kept, and no
break-in comes at a place that is shut. So the Web of the program tells of them all: each of its steps has a
crowd of the repairs that leave it open.
"""

from landedback.crowds import Crowds
from landedback.data import coming_back
from landedback.errors import TooMany
from landedback.following import web_of, whole_web
from landedback.memory import recalled
from landedback.repairs import Repair, open_items

MOST_OPEN = 8


def judge_of(program, most):
    """The Judge of a program; raises TooMany if its table has too many rows, and else if it has too many open items."""
    web_of(program, most)
    if len(open_items(program, most=most)) > MOST_OPEN:
        raise TooMany(MOST_OPEN)
    return recalled(program, "judge", _find_judge)


def _find_judge(program):
    web = whole_web(program)
    return Judge(web, open_items(program, most=len(web.row_numbers)))


class Judge:
    """What a whole Web tells of all repairs made of some items, which are the open ones; it never changes.

    crowds has the Crowds of these repairs, unsafe is the crowd of those that leave a fault, safe that of the
    others. edges, joints and harms have, for what the Web has there, the crowds of the repairs that leave it open.
    """

    def __init__(self, web, items):
        self._kept = items.kept()
        self._shut = items.shut()
        both = self._kept + self._shut
        self._signs = {item: 1 << at for at, item in enumerate(both)}
        self.crowds = Crowds(len(both))
        self.edges = [self._edges_of(web, number) for number in range(len(web.nodes))]
        self.joints = {row: self._joints_of(web, row) for row in web.joints}
        self.harms = [self._harm_of(web, harm) for harm in web.harms]
        self.unsafe = Reach(web, self).faulty(web)
        self.safe = self.crowds.every - self.unsafe

    def repair(self, number):
        """The Repair with this number."""
        return Repair([item for item in self._kept if number & self._signs[item] != 0],
                      [item for item in self._shut if number & self._signs[item] != 0])

    def number(self, repair):
        """The number of a Repair where its items that are not open are left aside."""
        return sum([self._signs.get(item, 0) for item in repair.kept() + repair.shut()])

    def _edges_of(self, web, number):
        """The crowds that leave the steps of a node open, None if these are all crowds of all repairs."""
        row = web.nodes[number]
        found = [self._sparing(row, coming_back(data), data[0]) for _, data in web.edges[number]]
        return found if any([crowd != self.crowds.every for crowd in found]) else None

    def _joints_of(self, web, number):
        row = web.nodes[number]
        joints = web.joints[number]
        return {end: [self._sparing(row, back, "") for _, back in joints[end]] for end in joints}

    def _harm_of(self, web, harm):
        row = web.nodes[harm.row]
        if harm.end is None:
            return self._sparing(row, coming_back(harm.data), harm.data[0])
        return self._sparing(row, harm.data, "")

    def _sparing(self, row, back, word):
        """The crowd that leaves a step of a row open by which these names come back in its call."""
        need = sum([self._signs[(row[0], name)] for name in back])
        if word in ("break", "within"):
            need += self._signs[(row[0], row[2])]
        return self.crowds.sparing(need)


class Reach:
    """Which repairs leave a way to which nodes of a Web."""

    def __init__(self, web, judge):
        self._judge = judge
        self._waiting = [False] * len(web.nodes)
        self._todo = []
        self._come = [0] * len(web.nodes)
        self._grant(0, judge.crowds.every)
        while len(self._todo) > 0:
            todo = self._todo
            self._todo = []
            for number in todo:
                self._waiting[number] = False
                self._spread(web, number)

    def faulty(self, web):
        """The crowd of the repairs that leave a way to a fault."""
        found = 0
        for harm, crowd in zip(web.harms, self._judge.harms):
            ahead = crowd & self._come[harm.row]
            found = found | (ahead if harm.end is None else ahead & self._come[harm.end])
        return found

    def _grant(self, number, crowd):
        """Takes up that a crowd comes to a node."""
        known = self._come[number]
        if crowd | known != known:
            self._come[number] = crowd | known
            if not self._waiting[number]:
                self._waiting[number] = True
                self._todo.append(number)

    def _spread(self, web, number):
        """Takes up all to which a node leads."""
        mine = self._come[number]
        crowds = self._judge.edges[number]
        if crowds is None:
            for other, _ in web.edges[number]:
                self._grant(other, mine)
        else:
            for edge, crowd in zip(web.edges[number], crowds):
                self._grant(edge[0], mine & crowd)
        if number in web.called:
            self._grant(web.called[number].first, mine)
            for end in web.joints[number]:
                self._join(web, number, end)
        elif len(web.nodes[number]) == 3:
            for row in web.homes[number].callers:
                self._join(web, row, number)

    def _join(self, web, row, end):
        """Takes up all to which an end of the call leads that is called at a row."""
        both = self._come[row] & self._come[end]
        if both != 0:
            for edge, crowd in zip(web.joints[row][end], self._judge.joints[row][end]):
                self._grant(edge[0], both & crowd)
