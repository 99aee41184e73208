"""Papers: by which it can be seen, without looking for more, which repairs make a program safe."""

from landedback.errors import TooMany
from landedback.faultruns import MOST_STEPS, is_fault_run
from landedback.following import whole_web
from landedback.judges import judge_of
from landedback.least import in_order, least
from landedback.memory import recalled
from landedback.narrowed import Narrowed
from landedback.repairs import Repair, repaired
from landedback.searches import Search


def paper(program, *, most=1000):
    """The tuple of the least repairs, and of the list of the greatest ones that do not do, each with a run."""
    goods = least(program, most=most)
    return (goods, [(repair, list(run)) for repair, run in recalled(program, "bads", _find_bads)])


def is_paper(program, goods, bads, *, most=1000):
    """Whether goods and bads, any values, are such lists by which all repairs made of open items are judged."""
    judge = judge_of(program, most)
    if not isinstance(goods, list) or not isinstance(bads, list):
        return False
    if not all([_is_good(program, judge, item) for item in goods]):
        return False
    if not all([_is_bad(program, item) for item in bads]):
        return False
    judged = 0
    for repair in goods:
        # One with an item that is not open is no part of a repair made of open items.
        if len(repair) == len(judge.repair(judge.number(repair))):
            judged = judged | judge.crowds.above(judge.number(repair))
    for repair, _ in bads:
        judged = judged | judge.crowds.inside(judge.number(repair))
    return judged == judge.crowds.every


def _find_bads(program):
    web = whole_web(program)
    judge = judge_of(program, len(web.row_numbers))
    numbers = judge.crowds.greatest(judge.unsafe)
    runs = {number: _shortest(Search(Narrowed(web, judge, number))) for number in numbers}
    return [(repair, runs[judge.number(repair)]) for repair in in_order([judge.repair(number) for number in numbers])]


def _shortest(search):
    if search.steps > MOST_STEPS:
        raise TooMany(MOST_STEPS)
    return search.told_back()


def _is_good(program, judge, thing):
    if not isinstance(thing, Repair) or not _has_items(program, thing):
        return False
    return judge.safe >> judge.number(thing) & 1 == 1


def _is_bad(program, thing):
    if not isinstance(thing, tuple) or len(thing) != 2:
        return False
    repair, run = thing
    if not isinstance(repair, Repair) or not _has_items(program, repair):
        return False
    return is_fault_run(repaired(program, repair), run)


def _has_items(program, repair):
    """Whether a program has all items of a Repair."""
    return program.has_all(repair.kept(), repair.shut())
