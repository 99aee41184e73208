"""[70], with [10] and [13]: Repair, repaired and open_items."""

import copy
import unittest

from landedback.errors import BackError, BadKept, BadShut, TooMany, Wrong
from landedback.faultruns import is_safe
from landedback.machine import Machine
from landedback.places import all_places
from landedback.programs import Program
from landedback.repairs import Repair, open_items, repaired
from landedback.tables import Table
from tests.reference import ARMED, DEEP, PLAN, STALE, chance_program, programs
from tests.repairing import BROKEN, CALLED, EITHER, FALLING, every_repair, items_of, main, parted, stand_of
from tests.shapes import rich_program
from tests.steadies import steady_program
from tests.test_tables import FUNCTIONS, NAMES, renamed_program

P, Q, R = ("main", "p"), ("main", "q"), ("f", "p")
A, B, C = ("main", (0,)), ("main", (1, 0, 2)), ("f", (0,))

VALUES = [None, True, False, 0, 1, -1, "", "main", b"main", [], (), {}, set(), object(), Repair, Repair([P]), ("main",),
          ("main", "p", "p"), ["main", "p"], ("main", "P"), ("", "p"), ("main", ""), ("main", None), ("main", 0),
          ("main", True), ("main", ()), ("main", (0, 0)), ("main", (-1,)), ("main", [0]), ("main", (False,)),
          ("main", (True, 0, 2)), ("main", (1, False, 2)), (True, (0,)), ((), ()), ([], "p"), ("main", ["p"]), ("main", {})]


class Items(unittest.TestCase):

    def test_kept_and_shut(self):
        for kept, shut in (([Q, P, R, P], [B, C, A, C]), ((Q, P, R, P), (B, C, A, C)), ([R, P, Q], (C, B, A))):
            repair = Repair(kept, shut)
            self.assertEqual([repair.kept(), repair.shut(), len(repair)], [[R, P, Q], [C, A, B], 6])
        for repair in (Repair(), Repair([]), Repair((), []), Repair(shut=(), kept=[])):
            self.assertEqual([repair.kept(), repair.shut(), len(repair)], [[], [], 0])
        self.assertEqual([Repair([P]).kept(), Repair([P]).shut()], [[P], []])
        self.assertEqual([Repair(shut=[A]).kept(), Repair(shut=[A]).shut()], [[], [A]])
        self.assertEqual(Repair([P], [A]), Repair(kept=(P,), shut=(A,)))

    def test_truth(self):
        for repair, expected in ((Repair(), False), (Repair([P]), True), (Repair(shut=[A]), True), (Repair((), ()), False)):
            self.assertIs(bool(repair), expected)

    def test_copies(self):
        kept, shut = [P], [A]
        repair = Repair(kept, shut)
        kept.append(Q)
        shut.clear()
        repair.kept().append(Q)
        repair.shut().clear()
        self.assertEqual([repair.kept(), repair.shut(), len(repair)], [[P], [A], 2])
        self.assertIsNot(repair.kept(), repair.kept())

    def test_wrong(self):
        bad = [None, True, 0, "", "main", {}, set(), {P}, object(), [None], [["main", "p"]], [P, 5], [("main",)], P,
               [("main", "P")], [("main", True)], Repair()]
        for thing in bad + [[A], [("main", (0,))], [("", "p")]]:
            with self.assertRaises(Wrong) as held:
                Repair(thing, 5)
            self.assertEqual(held.exception.place, 0, repr(thing))
        for thing in bad + [[P], [("main", ())], [("main", (0, 0))], [("main", (-1,))], [("main", (True,))], [("main", [0])], A]:
            with self.assertRaises(Wrong) as held:
                Repair([P], thing)
            self.assertEqual(held.exception.place, 1, repr(thing))
            self.assertIsInstance(held.exception, BackError)


class Signs(unittest.TestCase):

    def every(self):
        return [parted(items) for items in ([], [P], [A], [P, A], [Q, B], [P, Q, R, A, B, C], [P, B, C], [R, C])]

    def test_as_sets(self):
        for one in self.every():
            for other in self.every():
                left, right = set(items_of(one)), set(items_of(other))
                for found, expected in ((one | other, left | right), (one & other, left & right), (one - other, left - right)):
                    self.assertIsInstance(found, Repair)
                    self.assertEqual(found.kept() + found.shut(),
                                     sorted(item for item in expected if isinstance(item[1], str)) +
                                     sorted(item for item in expected if isinstance(item[1], tuple)))
                self.assertIs(one.within(other), left <= right)
                self.assertIs(one == other, left == right)
                self.assertIs(one != other, left != right)

    def test_with_itself(self):
        for one in self.every():
            self.assertTrue(one | one == one & one == one)
            self.assertEqual((one - one).kept() + (one - one).shut(), [])
            self.assertIs(one.within(one), True)
            self.assertIs(Repair().within(one), True)
            self.assertTrue(one == copy.deepcopy(one))

    def test_nothing_is_changed(self):
        one, other = Repair([P], [A]), Repair([P, Q], [B])
        for act in (lambda: one | other, lambda: one & other, lambda: one - other, lambda: one.within(other)):
            act()
            self.assertEqual([one.kept(), one.shut(), other.kept(), other.shut()], [[P], [A], [P, Q], [B]])

    def test_equal_to_nothing_else(self):
        for thing in VALUES[:15] + [[P], (P,), {P}]:
            self.assertIs(Repair() == thing, False)
            self.assertIs(Repair([R]) == thing, False)

    def test_other_operands(self):
        for thing in (None, [P], (), {P}):
            for act in (lambda: Repair() | thing, lambda: Repair() & thing, lambda: Repair() - thing):
                self.assertRaises(TypeError, act)

    def test_in(self):
        repair = Repair([P, R], [A, B])
        for item in (P, R, A, B):
            self.assertIs(item in repair, True)
        for item in (Q, C, ("f", "q"), ("f", (1, 0, 2)), ("main", (0, 0, 0)), ("g", "p"), "p", (0,)):
            self.assertIs(item in repair, False)
        for thing in VALUES:
            self.assertIs(thing in repair, False, repr(thing))
            self.assertIs(thing in Repair(), False, repr(thing))
        # Truths are not taken for 1 and 0.
        self.assertIs(("main", (1, 0, 2)) in repair, True)
        self.assertIs(("main", (True, 0, 2)) in repair, False)
        self.assertIs(("main", (False,)) in repair, False)


class Repaired(unittest.TestCase):

    def test_what_is_kept_and_shut(self):
        program = Program(PLAN)
        found = repaired(program, Repair([P], [("main", (2,)), ("main", (1, 1, 0))]))
        self.assertEqual(found, Program(PLAN, kept=[P], shut=[("main", (1, 1, 0)), ("main", (2,))]))
        self.assertEqual([program.kept(), program.shut()], [[], []])
        self.assertEqual(repaired(program, Repair()), program)

    def test_besides_what_is_so_already(self):
        program = Program(ARMED, kept=[("main", "p")], shut=[("f", (0,))])
        found = repaired(program, Repair([("main", "q"), ("main", "p")], [("main", (3,)), ("f", (0,))]))
        self.assertEqual([found.kept(), found.shut()], [[("main", "p"), ("main", "q")], [("f", (0,)), ("main", (3,))]])
        self.assertEqual(found.functions(), program.functions())
        self.assertEqual(repaired(found, Repair([("main", "q")])), found)

    def test_least_item_that_there_is_not(self):
        program = Program(PLAN, kept=[P])
        for kept, shut, error, told in (
                ([("main", "z"), ("main", "q"), P], [("main", (99,))], BadKept, ("main", "q")),
                ([("main", "z"), ("f", "p")], [], BadKept, ("f", "p")),
                ([P], [("main", (99,)), ("main", (0, 0, 0)), ("main", (2,))], BadShut, ("main", (0, 0, 0))),
                ([], [("main", (7,)), ("f", (0,))], BadShut, ("f", (0,)))):
            with self.assertRaises(error) as held:
                repaired(program, Repair(kept, shut))
            self.assertEqual(tuple(vars(held.exception).values()), told)

    def test_as_by_with_kept_and_with_shut(self):
        for seed in range(20):
            program = rich_program(seed)
            names = [(function, name) for function in program.functions() for name in program.names(function)]
            places = all_places(program)
            repair = Repair(names[::2], places[::3])
            found = repaired(program, repair)
            self.assertEqual(found, program.with_kept(program.kept() + names[::2]).with_shut(program.shut() + places[::3]))


class Open(unittest.TestCase):

    def told(self, program):
        found = open_items(program, most=4000)
        self.assertIsInstance(found, Repair)
        return [found.kept(), found.shut()]

    def test_landings(self):
        self.assertEqual(self.told(Program(PLAN)), [[("main", "p")], []])
        self.assertEqual(self.told(Program(PLAN, kept=[P])), [[], []])
        self.assertEqual(self.told(main([("mark", "m", [], [("use", "q")])])), [[], []])
        self.assertEqual(self.told(main([("jump", "m"), ("mark", "m", [], [])])), [[], []])
        self.assertEqual(self.told(main([])), [[], []])

    def test_landings_from_called_functions(self):
        self.assertEqual(self.told(CALLED), [[("f", "b"), ("f", "c"), ("main", "p"), ("main", "q")], []])
        # Only main is landed in.
        program = main([("mark", "m", [], []), ("call", "q", "f", ())], f=([], [("mark", "n", [], []), ("jump", "m")], "x"))
        self.assertEqual(self.told(program), [[("main", "p"), ("main", "q")], []])
        # The landing is in main, by way of f.
        program = main([("mark", "m", [], []), ("call", "q", "f", ())], f=([], [("call", "x", "g", ())], "x"),
                       g=([], [("jump", "m")], "y"))
        self.assertEqual(self.told(program), [[("main", "p"), ("main", "q")], []])

    def test_landings_to_which_no_run_comes(self):
        self.assertEqual(self.told(main([("mark", "m", [], []), ("loop", []), ("jump", "n"), ("jump", "m")])), [[], []])
        self.assertEqual(self.told(main([("mark", "m", [], [])], f=([], [("mark", "m", [], []), ("jump", "m")], "x"))), [[], []])

    def test_break_ins(self):
        self.assertEqual(self.told(FALLING), [[], [("main", (1,))]])
        self.assertEqual(self.told(BROKEN), [[("main", "p")], [("main", (3,)), ("main", (4,)), ("main", (5,))]])
        self.assertEqual(self.told(BROKEN.with_shut([("main", (4,)), ("main", (0,))])),
                         [[("main", "p")], [("main", (3,)), ("main", (5,))]])
        everywhere = BROKEN.with_shut([("main", (at,)) for at in range(8)])
        self.assertEqual(self.told(everywhere), [[], []])
        # Ends, and places of calls and of called functions; all but the first is a fall.
        program = main([("arm", "m"), ("call", "p", "f", ())], f=([], [("mark", "m", [], []), ("rest",)], "x"))
        self.assertEqual(self.told(program), [[("f", "x")], [("f", (0,)), ("f", (1,)), ("main", (1,))]])

    def test_faults_on_the_way_do_not_matter(self):
        program = main([("get", "q"), ("clear", "q"), ("mark", "m", [], []), ("get", "p"), ("arm", "m"), ("clear", "p")])
        self.assertEqual(self.told(program), [[("main", "p"), ("main", "q")], [("main", (5,)), ("main", (6,))]])

    def test_against_runs(self):
        seen = set()
        for program in programs() + [make(seed) for seed in range(25) for make in (rich_program, steady_program, chance_program)]:
            names, places, whole = by_runs(program, 400)
            kept, shut = self.told(program)
            if whole:
                self.assertEqual([kept, shut], [names, places], program.functions())
            self.assertLessEqual(set(names), set(kept))
            self.assertLessEqual(set(places), set(shut))
            seen.add((whole, bool(kept), bool(shut)))
        self.assertGreaterEqual(len([one for one in seen if one[0]]), 4)

    def test_other_items_do_not_matter(self):
        for program in (BROKEN, EITHER, CALLED, Program(DEEP), Program(STALE)):
            names = [(function, name) for function in program.functions() for name in program.names(function)]
            others = Repair(names, all_places(program)) - open_items(program)
            self.assertIs(is_safe(repaired(program, others)), is_safe(program))
            for repair in every_repair(program)[::3]:
                self.assertIs(is_safe(repaired(program, repair | others)), is_safe(repaired(program, repair)))

    def test_many(self):
        for program in (BROKEN, CALLED, Program(DEEP)):
            many = len(Table(program))
            self.assertEqual(open_items(program, most=many), open_items(program))
            for asked in (program, Program(program.functions())):
                with self.assertRaises(TooMany) as held:
                    open_items(asked, most=many - 1)
                self.assertEqual(held.exception.limit, many - 1)
        self.assertRaises(TypeError, lambda: open_items(BROKEN, 1000))
        with self.assertRaises(TooMany) as held:
            open_items(main([("rest",)] * 1000))
        self.assertEqual(held.exception.limit, 1000)

    def test_renamed(self):
        """[13]."""
        for seed in range(25):
            program = rich_program(seed)
            kept, shut = self.told(program)
            self.assertEqual(self.told(renamed_program(program)),
                             [[(FUNCTIONS[function], NAMES[name]) for function, name in kept],
                              [(FUNCTIONS[function], address) for function, address in shut]])


def by_runs(program, most):
    """The open items that runs show, those that stand alike done once; and whether these were all runs."""
    names, places, seen = set(), set(), set()
    todo = [Machine(program)]
    while todo and len(seen) < most:
        machine = todo.pop(0)
        for data in machine.wanted():
            other = machine.copied()
            other.step(data)
            if data[0] in ("break", "within"):
                places.add(machine.here())
            if data[0] in ("jump", "break", "within") and not other.fallen:
                function = other.calls()[-1][0][0]
                names.update((function, name) for name in program.loose_names(function))
            stand = stand_of(other)
            if stand not in seen:
                seen.add(stand)
                todo.append(other)
    return sorted(names), sorted(places), not todo


class Safe(unittest.TestCase):

    def test_more_is_as_safe(self):
        """[10]."""
        for program in (BROKEN, EITHER, CALLED, Program(PLAN), Program(ARMED)):
            repairs = every_repair(program)
            safe = [repair for repair in repairs if is_safe(repaired(program, repair))]
            for one in safe:
                for other in repairs[::4]:
                    self.assertIs(is_safe(repaired(program, one | other)), True)


if __name__ == "__main__":
    unittest.main()
