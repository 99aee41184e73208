"""The errors of the package. Each keeps what it was made of, the objects themselves, as fields."""


class BackError(ValueError):
    """Whatever the package raises on purpose."""


class Wrong(BackError):
    """The argument with this place in the signature is not as described."""

    def __init__(self, place):
        self.place = place


class BadStatement(BackError):
    """What stands at this address of the function is no statement that may stand there."""

    def __init__(self, function, address):
        self.function = function
        self.address = address


class BadCells(BackError):
    """A program has too many cells: so many."""

    def __init__(self, many):
        self.many = many


class BadKept(BackError):
    """There is no such name of such a function that could be kept."""

    def __init__(self, function, name):
        self.function = function
        self.name = name


class BadShut(BackError):
    """There is no such place that could be shut."""

    def __init__(self, function, address):
        self.function = function
        self.address = address


class Unknown(BackError):
    """There is no such function."""

    def __init__(self, function):
        self.function = function


class NoName(BackError):
    """The call at work has no such name, or there is no call."""

    def __init__(self, name):
        self.name = name


class Over(BackError):
    """The run is over: no step can be done."""

    def __init__(self):
        pass


class Unfit(BackError):
    """These are no data that the next step may have."""

    def __init__(self):
        pass


class Nothing(BackError):
    """There is nothing to take back, or to do again."""

    def __init__(self):
        pass


class Broken(BackError):
    """The item with this number cannot be done."""

    def __init__(self, at):
        self.at = at


class BadPlacing(BackError):
    """At the step with this number a placing told something else than names that may come back."""

    def __init__(self, at):
        self.at = at


class TooMany(BackError):
    """There are more than may be: the limit."""

    def __init__(self, limit):
        self.limit = limit


class Faulty(BackError):
    """A plain run has this fault at this place."""

    def __init__(self, word, function, address):
        self.word = word
        self.function = function
        self.address = address


class Unsteady(BackError):
    """A program is not steady; why tells by what."""

    def __init__(self, why):
        self.why = why


class NoDeed(BackError):
    """This is no deed."""

    def __init__(self):
        pass


class Full(BackError):
    """A log has as many deeds as it may have: the limit."""

    def __init__(self, limit):
        self.limit = limit


class Refused(BackError):
    """A deed cannot be done; why is the error that a Program raised for it, or None."""

    def __init__(self, deed, why):
        self.deed = deed
        self.why = why


class NoEntry(BackError):
    """A log has not so many deeds."""

    def __init__(self, many):
        self.many = many


class NoText(BackError):
    """This is not the text of what was to be read."""

    def __init__(self):
        pass


class NoCommand(BackError):
    """This is not a line that a desk knows."""

    def __init__(self):
        pass
