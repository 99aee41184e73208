"""Narrowed: what a repair leaves of the Web of a program."""


class Narrowed:
    """A Web without the steps that a repair, by its number, does not leave open; a Search can be made in it."""

    def __init__(self, web, judge, repair):
        self.nodes = web.nodes
        self.homes = web.homes
        self.frames = web.frames
        self.called = web.called
        self.edges = [_left(edges, crowds, repair) for edges, crowds in zip(web.edges, judge.edges)]
        self.joints = {row: _joints_left(web.joints[row], judge.joints[row], repair) for row in web.joints}
        self.harms = _left(web.harms, judge.harms, repair)


def _left(things, crowds, repair):
    """The things that a repair leaves open."""
    if crowds is None:
        return things
    return [thing for thing, crowd in zip(things, crowds) if crowd >> repair & 1 == 1]


def _joints_left(joints, crowds, repair):
    return {end: _left(joints[end], crowds[end], repair) for end in joints}
