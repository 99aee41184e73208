"""Closing: whether lists of rows and outcomes are closed, and lead to no fault."""

from landedback.forms import is_end_of, is_row_of
from landedback.moves import moves_and_leaves
from landedback.returns import called_at, passed_on, returns
from landedback.rows import begin_entry, begin_row


def is_closed(program, rows, outcomes, *, plain=False, nothing=False):
    """Whether rows and outcomes, any values, are closed lists that lead to no fault."""
    if not isinstance(rows, list) or not isinstance(outcomes, list):
        return False
    if not all([is_row_of(program, row) for row in rows]) or not all([is_end_of(program, end) for end in outcomes]):
        return False
    stand = {row: True for row in rows}
    ends = {end: True for end in outcomes}
    if begin_row(program, "main", begin_entry(program, nothing=nothing)) not in stand:
        return False
    following = _outcomes_by_pair(ends)
    return all([_is_row_closed(program, row, stand, ends, following, plain) for row in stand])


def _outcomes_by_pair(ends):
    """The dict from tuples (function, entry) to the lists of their outcomes."""
    found = {}
    for function, entry, outcome in ends:
        found.setdefault((function, entry), []).append(outcome)
    return found


def _is_row_closed(program, row, stand, ends, following, plain):
    """Whether all to which a row leads stands there, and no fault."""
    spot = program.spot_at(row[0], row[2])
    stays, goes = moves_and_leaves(program, row, spot, plain)
    if not _are_there(stays, stand) or not all([row[:2] + (outcome,) in ends for _, outcome in goes]):
        return False
    if spot.word != "call":
        return True
    pair = called_at(program, row)
    if begin_row(program, pair[0], pair[1]) not in stand:
        return False
    return all([_is_outcome_closed(program, row, outcome, stand, ends, plain) for outcome in following.get(pair, [])])


def _is_outcome_closed(program, row, outcome, stand, ends, plain):
    """Whether all to which an outcome of the call at a row leads stands there, and no fault."""
    passed = passed_on(row, outcome)
    if passed is not None and row[:2] + (passed,) not in ends:
        return False
    return _are_there(returns(program, row, outcome, plain), stand)


def _are_there(ways, stand):
    """Whether all ways lead to rows that stand there, none to a fault."""
    return all([behind is not None and behind in stand for _, behind, _ in ways])
