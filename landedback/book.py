"""Book: a Program that is changed by deeds, and the log of them."""

from landedback.deeds import done, fresh_deed, is_deed
from landedback.errors import Full, NoDeed, NoEntry, Nothing, Wrong
from landedback.programs import Program

MOST_DEEDS = 60


class Book:
    """A Program and the deeds by which it was changed; it is changed by do, back and again alone."""

    def __init__(self, program):
        if not isinstance(program, Program):
            raise Wrong(0)
        # One more than deeds: the Program ahead of the first one, and the one behind each.
        self._programs = [program]
        self._deeds = []
        # What was taken back and still is, the last one last, as tuples (deed, Program behind it).
        self._undone = []

    def do(self, deed):
        """Does a deed, and puts it behind the log."""
        if not is_deed(deed):
            raise NoDeed()
        if len(self._deeds) >= MOST_DEEDS:
            raise Full(MOST_DEEDS)
        program = done(self._programs[-1], deed)
        self._deeds.append(fresh_deed(deed))
        self._programs.append(program)
        self._undone = []

    def back(self):
        """Takes the last deed of the log back, and returns it."""
        if len(self._deeds) == 0:
            raise Nothing()
        deed = self._deeds.pop()
        self._undone.append((deed, self._programs.pop()))
        return fresh_deed(deed)

    def again(self):
        """Does the deed again that was taken back last and still is, and returns it."""
        if len(self._undone) == 0:
            raise Nothing()
        deed, program = self._undone.pop()
        self._deeds.append(deed)
        self._programs.append(program)
        return fresh_deed(deed)

    def log(self):
        """The list of the deeds."""
        return [fresh_deed(deed) for deed in self._deeds]

    def program(self):
        """The Program as it is now."""
        return self._programs[-1]

    def past(self, many):
        """The Program behind the first many deeds of the log."""
        if many > len(self._deeds):
            raise NoEntry(many)
        return self._programs[many]

    def copied(self):
        """A Book with the same log and the same to do again, which goes on by itself."""
        other = Book(self._programs[0])
        other._programs = list(self._programs)
        other._deeds = list(self._deeds)
        other._undone = list(self._undone)
        return other

    def __len__(self):
        return len(self._deeds)

    def __eq__(self, other):
        return isinstance(other, Book) and self._programs[0] == other._programs[0] and self._deeds == other._deeds
