"""Least: the least repairs that make a program safe, the cheapest ones, and what is kept or shut for nothing."""

from landedback.comings import armed_places, landed_functions
from landedback.following import Following, web_of, whole_web
from landedback.judges import judge_of
from landedback.memory import recalled
from landedback.repairs import Repair
from landedback.webs import Web


def least(program, *, most=1000):
    """The ascending list of the repairs that make a program safe, of open items, of which none can be left out."""
    return list(_leasts(program, most))


def cheapest(program, prices, *, most=1000):
    """The tuple of the least price of a repair that makes a program safe, and the least repairs at that; or None."""
    found = [(_price(repair, prices), repair) for repair in _leasts(program, most)]
    if len(found) == 0:
        return None
    lowest = min([price for price, _ in found])
    return (lowest, [repair for price, repair in found if price == lowest])


def idle(program, *, most=1000):
    """The Repair of what is kept or shut each of which alone need not be, for a safe program; else without items."""
    web_of(program, most)
    return recalled(program, "idle", _find_idle)


def in_order(repairs):
    """The list of these Repairs, ascending by what is kept, and then by what is shut."""
    return sorted(repairs, key=lambda repair: (repair.kept(), repair.shut()))


def _leasts(program, most):
    """least, to be read only."""
    judge_of(program, most)
    return recalled(program, "least", _find_least)


def _find_least(program):
    judge = judge_of(program, len(whole_web(program).row_numbers))
    return in_order([judge.repair(number) for number in judge.crowds.least(judge.safe)])


def _price(repair, prices):
    return sum([prices.get(item, 1) for item in repair.kept() + repair.shut()])


def _find_idle(program):
    if len(whole_web(program).harms) > 0:
        return Repair()
    return Repair([item for item in program.kept() if _is_idle_name(program, item)],
                  [place for place in program.shut() if _is_idle_place(program, place)])


def _is_idle_name(program, item):
    """Where no landing comes, nothing can come back."""
    if item[0] not in landed_functions(program):
        return True
    return _has_no_fault(program.with_kept([other for other in program.kept() if other != item]))


def _is_idle_place(program, place):
    """Where nothing is armed, no break-in can come."""
    if place not in armed_places(program):
        return True
    return _has_no_fault(program.with_shut([other for other in program.shut() if other != place]))


def _has_no_fault(program):
    """Whether a program is safe, however many rows its table has."""
    return not Web().seek_harm(Following(program, False, False))
