"""Table: the closed table of a program, in which one thing, or nothing, is followed."""

from landedback.forms import is_row_of
from landedback.growth import Growth, begin_steps


class Table:
    """The least rows and outcomes that a program leads to, and their faults; it never changes."""

    def __init__(self, program, *, most=1000, plain=False, nothing=False):
        self._program = program
        self._growth = Growth(program, most=most, plain=plain, nothing=nothing)
        self._rows = self._growth.found_rows()
        self._begins = begin_steps(self._growth)

    def rows(self):
        """The ascending list of the rows."""
        return list(self._rows)

    def rows_at(self, function, address):
        """The ascending list of the rows at a place."""
        return [row for row in self._rows if row[0] == function and row[2] == address]

    def entries(self):
        """The ascending list of the tuples (function, entry) of the calls that begin."""
        return sorted(list(self._begins))

    def outcomes(self, function, entry):
        """The ascending list of the outcomes of a call that begins so."""
        return sorted(self._growth.ends.get((function, entry), []))

    def faults(self):
        """The ascending list of the tuples (word, function, address) of all faults."""
        return sorted(set([harm.fault for harm in self._growth.harms]))

    def cost(self, row):
        """The fewest steps with which a call comes from its begin to a row."""
        return self._growth.steps[row]

    def outcome_cost(self, function, entry, outcome):
        """The fewest steps from the begin of a call to its outcome, the last one included."""
        return self._growth.steps[(function, entry, outcome)]

    def entry_cost(self, function, entry):
        """The fewest steps of a run with which such a call is begun."""
        return self._begins[(function, entry)]

    def __contains__(self, thing):
        # The form is looked at first, since truths are equal to 1 and 0, and lists are no keys.
        return is_row_of(self._program, thing) and thing in self._growth.steps

    def __len__(self):
        return len(self._rows)
