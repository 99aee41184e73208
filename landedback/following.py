"""Following: the rules by which one thing of a program's runs, or nothing, is followed; and the webs of them."""

from landedback.moves import moves_and_leaves
from landedback.returns import called_at, passed_on, returns
from landedback.rows import begin_entry, begin_row
from landedback.webs import Web


class Following:
    """The rules for the runs of a program; plain is whether nothing comes back, nothing whether nothing is followed."""

    def __init__(self, program, plain, nothing):
        self._program = program
        self._plain = plain
        self._nothing = nothing

    def opening(self):
        """The tuple (function, entry) of the call of main."""
        return ("main", begin_entry(self._program, nothing=self._nothing))

    def begun(self, pair):
        """The row in which a call begins."""
        return begin_row(self._program, pair[0], pair[1])

    def led_from(self, row):
        """The steps of a row that stay in its call, and those that end it; and the call that is called at it, or None.

        That is the tuple of a list of tuples (data, row behind, fault), one of tuples (data, outcome), and a tuple
        (function, entry).
        """
        spot = self._program.spot_at(row[0], row[2])
        stays, goes = moves_and_leaves(self._program, row, spot, self._plain)
        return (stays, goes, called_at(self._program, row) if spot.word == "call" else None)

    def joined(self, row, outcome):
        """To what an outcome of the call at a row leads in the row's call, and the outcome of this one that it is.

        That is the tuple of a list of tuples (names that come back, row behind, fault), and an outcome or None.
        """
        return (returns(self._program, row, outcome, self._plain), passed_on(row, outcome))


def web_of(program, most, *, plain=False, nothing=False):
    """The whole Web of a program; raises TooMany if it has more rows than most."""
    key = ("web", plain, nothing)
    if key not in program.memory:
        program.memory[key] = Web()
    web = program.memory[key]
    web.grow(Following(program, plain, nothing), most)
    return web


def whole_web(program, *, plain=False, nothing=False):
    """The Web of a program that was made whole before."""
    return program.memory[("web", plain, nothing)]


def rows_found(program, *, plain=False, nothing=False):
    """The ascending list of the rows of a Web that was made whole before; to be read only."""
    key = ("rows", plain, nothing)
    if key not in program.memory:
        web = whole_web(program, plain=plain, nothing=nothing)
        program.memory[key] = sorted([web.nodes[number] for number in web.row_numbers])
    return program.memory[key]


def faults_found(program, *, plain=False, nothing=False):
    """The ascending list of the faults of a Web that was made whole before; to be read only."""
    key = ("faults", plain, nothing)
    if key not in program.memory:
        web = whole_web(program, plain=plain, nothing=nothing)
        program.memory[key] = sorted(set([harm.fault for harm in web.harms]))
    return program.memory[key]
