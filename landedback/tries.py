"""Tries: programs with tries and raises, and runs of them that are done step by step."""

from landedback.data import is_data
from landedback.errors import NoName, Over, Unfit, Unknown, Wrong
from landedback.functions import Functions, are_functions, fresh_function
from landedback.kinds import is_name
from landedback.moments import Call, Moment, fallen, first_moment, is_last, losses, statement_of, stepped
from landedback.openings import own_openings
from landedback.statements import fresh, is_tried_form, is_whole


def is_tried(thing):
    """Whether thing, any value, is a statement of a program with tries, what stands in its bodies included."""
    return is_whole(thing, is_tried_form)


class Tried:
    """A program with tries; it never changes.

    memory is not a part of what it is: it has what was found out of it before.
    """

    def __init__(self, functions):
        if not are_functions(functions):
            raise Wrong(0)
        self._functions = Functions(functions, is_tried_form)
        self.memory = {}

    def functions(self):
        """The dict from the names of the functions, ascending, to (parameters, body, result)."""
        whole = self._functions.whole
        return {name: fresh_function(whole[name]) for name in whole}

    def parameters(self, function):
        """The list of the parameters of a function."""
        return list(self._told_of(function)[0])

    def result(self, function):
        """The result of a function, one of its names."""
        return self._told_of(function)[2]

    def names(self, function):
        """The ascending list of all names of a function."""
        self._told_of(function)
        return list(self._functions.words[function])

    def places(self):
        """The ascending list of all places, the ends of functions included."""
        spots = self._functions.spots
        return [(function, address) for function in spots for address in spots[function]]

    def statement(self, place):
        """The statement at a place, or None at an end."""
        item = self.spot(place).item
        return None if item is None else fresh(item)

    def spot(self, place):
        """The Spot at a place. Its statement is the program's own, to be read only."""
        return self._functions.spots[place[0]][place[1]]

    def _told_of(self, function):
        if function not in self._functions.whole:
            raise Unknown(function)
        return self._functions.whole[function]

    def __eq__(self, other):
        return isinstance(other, Tried) and self._functions.whole == other._functions.whole


class Trying:
    """A run of a program with tries; it is changed by step alone."""

    def __init__(self, tried):
        if not isinstance(tried, Tried):
            raise Wrong(0)
        self._tried = tried
        self._run = []
        self._moment = first_moment(tried, [])
        self._faults = []

    def step(self, data):
        """Does a step, and returns the ascending list of its faults."""
        if self.is_over():
            raise Over()
        # The form is looked at first, since truths are equal to 1 and 0.
        if not is_data(data) or data not in self.wanted():
            raise Unfit()
        if statement_of(self._tried, self._moment) == ("raise",):
            moment = _raised(self._tried, self._moment)
        else:
            moment = stepped(self._tried, self._moment, data)
        self._faults.extend([(len(self._run),) + harm for harm in moment.harms])
        self._run.append(data)
        self._moment = moment
        return list(moment.harms)

    def here(self):
        """The place of the call at work, or None if the run is over."""
        return None if self.is_over() else self._moment.stack[-1].stands

    def is_over(self):
        """Whether the run is over."""
        return is_last(self._moment)

    @property
    def fallen(self):
        """Whether the run was ended by a fall."""
        return self._moment.fell

    def wanted(self):
        """The ascending list of all data that the next step may have."""
        return [] if self.is_over() else sorted(own_openings(statement_of(self._tried, self._moment)))

    def calls(self):
        """The list of the tuples (place, dict from names to things) of all calls, main's first."""
        return [(call.stands, {**call.held}) for call in self._moment.stack]

    def things(self):
        """The list of the words of all things got."""
        return list(self._moment.states)

    def faults(self):
        """The list of the tuples (at, word, function, address, thing) of all faults so far."""
        return list(self._faults)

    def run(self):
        """The list of the data of the steps done."""
        return list(self._run)

    def opened(self):
        """The list of the tuples (call, address) of all open tries, the last begun first."""
        return _open_tries(self._tried, self._moment.stack)

    def __getitem__(self, name):
        stack = self._moment.stack
        if not is_name(name) or len(stack) == 0 or name not in stack[-1].held:
            raise NoName(name)
        return stack[-1].held[name]

    def __iter__(self):
        raise TypeError("a Trying is not iterated over")

    def __len__(self):
        return len(self._run)


def _open_tries(tried, stack):
    """The list of the tuples (call, address) of the open tries of these calls, the last begun first.

    Where a call stands tells which of its tries are open: those in whose bodies it stands.
    """
    calls = [(call, stack[call].stands) for call in range(len(stack))]
    return [(call, address) for call, place in calls[::-1] for address in tried.spot(place).around]


def _raised(tried, moment):
    """The moment behind a raise."""
    opened = _open_tries(tried, moment.stack)
    if len(opened) == 0:
        return fallen(moment)
    call, address = opened[0]
    owner = moment.stack[call]
    place = (owner.stands[0], address)
    landing = (owner.stands[0], tried.spot(place).doors[1])
    stack = moment.stack[:call] + (Call(landing, owner.held),)
    return Moment(stack, moment.tellings, None, moment.states, harms=losses(moment, stack, moment.states, place))
