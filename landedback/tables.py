"""Table: the closed table of a program, in which one thing, or nothing, is followed."""

from landedback.costs import Costs
from landedback.following import faults_found, rows_found, web_of
from landedback.forms import is_row_of


class Table:
    """The least rows and outcomes that a program leads to, and their faults; it never changes."""

    def __init__(self, program, *, most=1000, plain=False, nothing=False):
        self._program = program
        self._plain = plain
        self._nothing = nothing
        self._web = web_of(program, most, plain=plain, nothing=nothing)
        self._rows = self._web.row_numbers

    def rows(self):
        """The ascending list of the rows."""
        return list(rows_found(self._program, plain=self._plain, nothing=self._nothing))

    def rows_at(self, function, address):
        """The ascending list of the rows at a place."""
        return [row for row in self.rows() if row[0] == function and row[2] == address]

    def entries(self):
        """The ascending list of the tuples (function, entry) of the calls that begin."""
        return sorted(list(self._web.frames))

    def outcomes(self, function, entry):
        """The ascending list of the outcomes of a call that begins so."""
        if (function, entry) not in self._web.frames:
            return []
        return sorted([self._web.nodes[end][2] for end in self._web.frames[(function, entry)].closed])

    def faults(self):
        """The ascending list of the tuples (word, function, address) of all faults."""
        return list(faults_found(self._program, plain=self._plain, nothing=self._nothing))

    def cost(self, row):
        """The fewest steps with which a call comes from its begin to a row."""
        return self._costs().steps[self._web.numbers[row]]

    def outcome_cost(self, function, entry, outcome):
        """The fewest steps from the begin of a call to its outcome, the last one included."""
        return self._costs().steps[self._web.numbers[(function, entry, outcome)]]

    def entry_cost(self, function, entry):
        """The fewest steps of a run with which such a call is begun."""
        return self._costs().begins[self._web.frames[(function, entry)].at][0]

    def _costs(self):
        """The Costs of the table, which few ask for; so they are found when the first one does."""
        key = ("costs", self._plain, self._nothing)
        if key not in self._program.memory:
            self._program.memory[key] = Costs(self._web)
        return self._program.memory[key]

    def __contains__(self, thing):
        # The form is looked at first, since truths are equal to 1 and 0, and lists are no keys.
        return is_row_of(self._program, thing) and thing in self._web.numbers

    def __len__(self):
        return len(self._rows)
