"""What the tests of repairs need: programs with some open items, and whether they are safe, by runs of a Machine."""

import itertools

from landedback.machine import Machine
from landedback.programs import Program
from landedback.repairs import Repair, open_items
from tests.reference import ARMED, CHAIN, DEEP, PLAN, STALE
from tests.shapes import rich_program
from tests.steadies import steady_program
from tests.test_steady import NESTED, SHARED, TWO

JUMP = ("either", [[("jump", "m")], []])


def main(body, result="p", **others):
    return Program({"main": ([], body, result), **others})


# Break-ins while p is renewed.
BROKEN = main([("get", "p"), ("mark", "m", [], [("free", "p"), ("get", "p")]), ("arm", "m"), ("free", "p"), ("get", "p"),
               ("rest",), ("free", "p")])

# A mark that is set while it is armed; ahead of it a break-in falls.
FALLING = main([("arm", "m"), ("rest",), ("mark", "m", [], []), ("use", "p")])

# Safe if two places are shut, or one of them and p is kept: more than one least repair.
EITHER = main([("mark", "m", [], [("free", "p"), ("clear", "p")]), ("arm", "m"), ("get", "p"), ("rest",), ("free", "p"),
               ("clear", "p")])

# f is landed in, and so is main, from g; b of f is lost then, whatever is kept.
CALLED = main([("mark", "m", [], [("free", "p"), ("clear", "p")]), ("get", "p"), ("call", "q", "f", ()), ("free", "p")],
              f=([], [("mark", "n", [], []), ("get", "b"), ("call", "c", "g", ()), ("free", "b"), ("clear", "b")], "c"),
              g=([], [("either", [[("jump", "m")], [("jump", "n")], []])], "x"))


def small_programs():
    """Programs with neither loops nor rings of calls, so that they have only so many runs."""
    found = [Program(functions) for functions in (PLAN, TWO, NESTED, SHARED, CHAIN)] + [BROKEN, FALLING, EITHER, CALLED]
    for seed in range(200):
        for program in (rich_program(seed), steady_program(seed)):
            if not has_rings(program) and len(open_items(program, most=4000)) <= 5:
                found.append(program)
    return found


def all_programs():
    return small_programs() + [Program(functions) for functions in (DEEP, ARMED, STALE)]


def has_rings(program):
    """Whether there are loops, or functions that call themselves by others."""
    calls = {function: program.calls(function) for function in program.functions()}
    ahead = {function: set(calls[function]) for function in calls}
    for _ in calls:
        ahead = {function: ahead[function].union(*(ahead[other] for other in ahead[function])) for function in ahead}
    return "'loop'" in repr(program.functions()) or any(function in ahead[function] for function in ahead)


def parted(items):
    """The Repair of these items."""
    return Repair([item for item in items if isinstance(item[1], str)],
                  [item for item in items if isinstance(item[1], tuple)])


def items_of(repair):
    return repair.kept() + repair.shut()


def every_part(items):
    return [list(some) for many in range(len(items) + 1) for some in itertools.combinations(items, many)]


def every_repair(program, most=4000):
    """All repairs made of open items."""
    return [parted(some) for some in every_part(items_of(open_items(program, most=most)))]


def stand_of(machine):
    """How a run stands, as a string; the things that are held or saved are counted anew."""
    numbers = {}
    words = machine.things()

    def shown(held):
        found = []
        for name, thing in held.items():
            number = None if thing is None else (numbers.setdefault(thing, len(numbers)), words[thing])
            found.append((name, number))
        return found

    calls = [(place, shown(held)) for place, held in machine.calls()]
    cells = [told[:2] + (shown(told[2]),) if isinstance(told, tuple) else told for told in machine.cells().values()]
    return repr((calls, cells, machine.armed(), machine.is_over()))


class TooLong(Exception):
    """There are more moments than were to be looked at."""


def has_fault(program, most=2500):
    """Whether some run has a fault, by a Machine that does all runs; those that stand alike are done once."""
    machine = Machine(program)
    seen = set()
    ahead = [machine.wanted()]
    while ahead:
        if not ahead[-1]:
            ahead.pop()
            if ahead:
                machine.back()
            continue
        if machine.step(ahead[-1].pop()):
            return True
        stand = stand_of(machine)
        ahead.append([] if stand in seen else machine.wanted())
        seen.add(stand)
        if len(seen) > most:
            raise TooLong
    return False
