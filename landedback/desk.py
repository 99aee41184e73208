"""Desk: a Book that is worked at by lines of text."""

from landedback.book import Book
from landedback.errors import NoCommand, NoText, Wrong
from landedback.faultruns import fewest
from landedback.notation import read_deed, show_deed, show_log, show_place, show_program
from landedback.programs import Program
from landedback.steady import must_keep
from landedback.tables import Table
from landedback.told import falls


class Desk:
    """A Book, and the lines that are done to it; it is changed by execute alone."""

    def __init__(self, program):
        if not isinstance(program, Program):
            raise Wrong(0)
        self._book = Book(program)

    def execute(self, line):
        """Does what a line, any value, says, and returns what it tells."""
        if not isinstance(line, str):
            raise NoCommand()
        if line == "back":
            return show_deed(self._book.back())
        if line == "again":
            return show_deed(self._book.again())
        if line == "log":
            return show_log(self._book)
        if line in _ASKED:
            ask = _ASKED[line]
            return ask(self._book.program())
        self._book.do(_deed_of(line))
        return "-"


def _deed_of(line):
    try:
        return read_deed(line)
    except NoText:
        raise NoCommand() from None


def _told_program(program):
    return show_program(program)


def _told_safe(program):
    faults = Table(program).faults()
    if len(faults) == 0:
        return "safe"
    word, function, address = faults[0]
    return word + " " + show_place((function, address))


def _told_fewest(program):
    steps = fewest(program)
    return "-" if steps is None else str(steps)


def _told_falls(program):
    return _listed([show_place(place) for place in falls(program)])


def _told_must(program):
    return _listed([function + " " + name for function, name in must_keep(program)])


def _listed(texts):
    return ", ".join(texts) if len(texts) > 0 else "-"


# What is asked of the Program by a line.
_ASKED = {
    "falls": _told_falls,
    "fewest": _told_fewest,
    "must": _told_must,
    "program": _told_program,
    "safe": _told_safe,
}
