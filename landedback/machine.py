"""Machine: a run of a program that is done step by step."""

from landedback.errors import NoName, Nothing, Over, Unfit, Wrong
from landedback.kinds import is_name
from landedback.moments import Mark, aim, first_moment, is_last, stepped
from landedback.openings import fits, wanted_data
from landedback.programs import Program


class Machine:
    """A run of a program; it is changed by step, back and trial alone."""

    def __init__(self, program):
        if not isinstance(program, Program):
            raise Wrong(0)
        self._program = program
        self._run = []
        # One more than steps: the moment ahead of the first step, and the one behind each.
        self._moments = [first_moment(program, program.cells())]
        # So many steps stand ahead of the innermost trial, and are not taken back in it.
        self._floor = 0

    def step(self, data):
        """Does a step, and returns the ascending list of its faults."""
        if self.is_over():
            raise Over()
        if not self.can(data):
            raise Unfit()
        moment = stepped(self._program, self._moments[-1], data)
        self._run.append(data)
        self._moments.append(moment)
        return list(moment.harms)

    def back(self):
        """Takes the last step back, and returns its data."""
        if len(self._run) <= self._floor:
            raise Nothing()
        self._moments.pop()
        return self._run.pop()

    def can(self, thing):
        """Whether thing, any value, is data that the next step may have."""
        return fits(self._program, self._moments[-1], thing)

    def landing(self, data):
        """The place of the mark at which a step with data that it may have lands, or None."""
        mark = aim(self._program, self._moments[-1], data)
        return None if mark is None else mark.stands

    def here(self):
        """The place of the call at work, or None if the run is over."""
        return None if self.is_over() else self._moments[-1].stack[-1].stands

    def is_over(self):
        """Whether the run is over."""
        return is_last(self._moments[-1])

    @property
    def fallen(self):
        """Whether the run was ended by a fall."""
        return self._moments[-1].fell

    def wanted(self):
        """The ascending list of all data that the next step may have."""
        return wanted_data(self._program, self._moments[-1])

    def calls(self):
        """The list of the tuples (place, dict from names to things) of all calls, main's first."""
        return [(call.stands, {**call.held}) for call in self._moments[-1].stack]

    def cells(self):
        """The dict from the cells to what they tell."""
        tellings = self._moments[-1].tellings
        return {cell: _shown(tellings[cell]) for cell in tellings}

    def armed(self):
        """The armed cell, or None."""
        return self._moments[-1].alarm

    def things(self):
        """The list of the words of all things got."""
        return list(self._moments[-1].states)

    def faults(self):
        """The list of the tuples (at, word, function, address, thing) of all faults so far."""
        return [(at,) + harm for at, moment in enumerate(self._moments[1:]) for harm in moment.harms]

    def trial(self, act):
        """What act returns for this Machine; all steps that are done in it are taken back."""
        run, moments, floor = self._run, self._moments, self._floor
        # act works on copies, so that what stood ahead of it only has to be put in place again.
        self._run, self._moments, self._floor = list(run), list(moments), len(run)
        try:
            return act(self)
        finally:
            self._run, self._moments, self._floor = run, moments, floor

    def run(self):
        """The list of the data of the steps done."""
        return list(self._run)

    def copied(self):
        """A Machine that stands there, too, outside of all trials."""
        other = Machine(self._program)
        other._run = list(self._run)
        other._moments = list(self._moments)
        return other

    def __getitem__(self, name):
        stack = self._moments[-1].stack
        if not is_name(name) or len(stack) == 0 or name not in stack[-1].held:
            raise NoName(name)
        return stack[-1].held[name]

    def __iter__(self):
        raise TypeError("a Machine is not iterated over")

    def __len__(self):
        return len(self._run)

    def __eq__(self, other):
        return isinstance(other, Machine) and self._program == other._program and self._run == other._run


def _shown(telling):
    """What a cell tells, for those who ask."""
    if isinstance(telling, Mark):
        return (telling.owner, telling.stands[1], {**telling.saved})
    return telling
