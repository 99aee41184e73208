"""[52], with [8] and [13]: is_safe, fewest, fault_run and is_fault_run."""

import unittest

from landedback.errors import TooMany
from landedback.faultruns import fault_run, fewest, is_fault_run, is_safe
from landedback.machine import Machine
from landedback.programs import Program
from landedback.runs import faults_of, is_run, plainly
from landedback.tables import Table
from tests.follow import Follow
from tests.reference import ARMED, CHAIN, DEEP, PLAN, STALE, chance_program, programs
from tests.shapes import rich_program
from tests.steadies import steady_program
from tests.test_tables import MIXED, renamed_program

GO = ("go",)


def main(body, result="p", **others):
    return Program({"main": ([], body, result), **others})


def long_program(further):
    """A program whose first fault comes behind 200 steps, and further ones."""
    return main([("rest",)] * further + [("call", "p", "f", ())] * 9 + [("get", "p"), ("clear", "p")],
                f=([], [("call", "p", "g", ())] * 2, "p"), g=([], [("rest",)] * 8, "p"))


class Runs(unittest.TestCase):

    def check(self, program, plain=False, most=1000):
        """Checks what is told of a program; returns the number of the fewest steps."""
        steps = fewest(program, most=most, plain=plain)
        self.assertEqual(steps is None, Table(program, most=most, plain=plain).faults() == [])
        if not plain:
            self.assertIs(is_safe(program, most=most), steps is None)
        if steps is None:
            self.assertIsNone(fault_run(program, most=most, plain=plain))
        elif steps > 200:
            self.assertRaises(TooMany, lambda: fault_run(program, most=most, plain=plain))
        else:
            run = fault_run(program, most=most, plain=plain)
            self.assertIsInstance(run, list)
            self.assertEqual(len(run), steps)
            machine = Machine(program)
            for data in run[:-1]:
                self.assertEqual(machine.step(data), [])
            self.assertNotEqual(machine.step(run[-1]), [])
            self.assertIs(is_fault_run(program, run), True)
            self.assertIs(is_fault_run(program, run[:-1]), False)
            if plain:
                self.assertEqual(plainly(program, run), run)
        return steps

    def test_plan(self):
        program = Program(PLAN)
        self.assertEqual(fewest(program), 5)
        self.assertEqual(fault_run(program), [GO, GO, GO, ("body", 0), ("jump", ("p",))])
        self.assertIs(is_safe(program), False)
        self.assertEqual([fewest(program, plain=True), fault_run(program, plain=True)], [None, None])
        kept = program.with_kept([("main", "p")])
        self.assertEqual([is_safe(kept), fewest(kept), fault_run(kept)], [True, None, None])

    def test_each_fault(self):
        for body, steps in (([("jump", "m")], 1), ([("rest",), ("arm", "m")], 3), ([("get", "p")], 2),
                            ([("get", "p"), ("get", "p")], 2), ([("get", "p"), ("free", "p"), ("use", "p")], 3),
                            ([("get", "p"), ("free", "p"), ("free", "p")], 3), ([("get", "p"), ("free", "p")], None),
                            ([("get", "p"), ("take", "q", "p"), ("clear", "p"), ("free", "q")], None), ([], None),
                            ([("mark", "m", [], [("rest",)]), ("arm", "m"), ("get", "p"), ("free", "p"), ("rest",)], 3),
                            ([("free", "p"), ("use", "p"), ("loop", [("clear", "p")])], None)):
            for plain in (False, True):
                self.assertEqual(self.check(main(body), plain), steps, body)

    def test_lost_in_calls(self):
        program = main([("rest",), ("call", "p", "f", ())], f=([], [("get", "a")], "b"))
        self.assertEqual(self.check(program), 4)
        program = main([("mark", "m", [], []), ("call", "p", "f", ())], f=([], [("get", "a"), ("call", "b", "g", ())], "b"),
                       g=([], [("jump", "m")], "a"))
        self.assertEqual(self.check(program), 5)
        self.assertEqual(fault_run(program)[-1], ("jump", ()))
        program = main([("mark", "m", [], []), ("call", "p", "f", ())], f=([], [("arm", "m"), ("call", "b", "g", ())], "b"),
                       g=([], [("get", "a")], "a"))
        self.assertEqual(self.check(program.with_shut([("f", (1,))])), 5)
        self.assertEqual(fault_run(program.with_shut([("f", (1,))]))[-1], ("within", ()))

    def test_what_comes_back_by_a_call_of_a_call(self):
        """p saved nothing; it comes back at a jump out of g, so what it holds is lost."""
        program = main([("mark", "m", [], []), ("get", "p"), ("call", "q", "f", ()), ("free", "p")],
                       f=([], [("call", "b", "g", ())], "b"), g=([], [("jump", "m")], "a"))
        self.assertEqual(self.check(program), 5)
        self.assertEqual(fault_run(program)[-1], ("jump", ("p",)))
        program = main([("get", "p"), ("mark", "m", [("call", "q", "f", ())], [("use", "p")]), ("free", "p")],
                       f=([], [("arm", "m"), ("rest",)], "b"))
        self.assertIs(is_safe(program), True)
        program = main([("get", "p"), ("mark", "m", [("free", "p"), ("clear", "p"), ("call", "q", "f", ())], [("use", "p")])],
                       f=([], [("arm", "m"), ("rest",)], "b"))
        self.assertEqual(self.check(program), 8)
        self.assertEqual(fault_run(program)[-2:], [("break", ("p",)), GO])
        self.assertEqual(self.check(program, plain=True), None)
        self.assertEqual(self.check(program.with_shut([("f", (1,))])), None)

    def test_functions_that_call_themselves(self):
        program = main([("call", "p", "f", ("p",))], f=(["a"], [("free", "a"), ("get", "b"), ("call", "a", "f", ("b",))], "a"))
        self.assertEqual(self.check(program), None)
        self.assertEqual(fewest(Program(DEEP)), 7)
        for functions in (PLAN, DEEP, ARMED, STALE, CHAIN):
            for plain in (False, True):
                self.check(Program(functions), plain)

    def test_long_runs(self):
        self.assertEqual(self.check(long_program(0), plain=True), 200)
        self.assertEqual(self.check(long_program(0)), 200)
        for plain in (False, True):
            program = long_program(1)
            self.assertEqual(fewest(program, plain=plain), 201)
            with self.assertRaises(TooMany) as held:
                fault_run(program, plain=plain)
            self.assertEqual(held.exception.limit, 200)
            self.assertIs(is_safe(program), False)

    def test_a_chain_of_calls(self):
        """Only in a third call of f within another one o tells a mark of f; or it tells one that is over."""
        marks = [("mark", cell, [], []) for cell in "mno"]
        program = main(marks + [("call", "p", "f", ())],
                       f=([], [("move", "o", "n"), ("move", "n", "m"), ("mark", "m", [], [("get", "a"), ("clear", "a")]),
                               ("either", [[("jump", "o")], []]), ("call", "a", "f", ())], "a"))
        for plain in (False, True):
            self.assertEqual(self.check(program, plain), 3 + 1 + 5 + 5 + 5 + 2)
        self.assertIn(faults_of(program, fault_run(program)),
                      [[(20, "lost", "f", (2, 1, 1), 0)], [(20, "fall", "f", (3, 0, 0), None)]])

    def test_by_hand_and_by_chance(self):
        for program in programs() + [steady_program(seed) for seed in range(40)] + [rich_program(s) for s in range(40)]:
            for plain in (False, True):
                self.check(program, plain, most=4000)

    def test_against_runs(self):
        """[8]."""
        found = set()
        every = programs() + [steady_program(seed) for seed in range(25)] + [rich_program(seed) for seed in range(40)]
        for program in every + [chance_program(seed) for seed in range(20)]:
            for plain in (False, True):
                runs = Follow(program, 25, plain=plain, most=400)
                least = min(runs.faults.values(), default=None)
                steps = fewest(program, plain=plain, most=4000)
                if least is not None:
                    self.assertEqual(steps, least)
                else:
                    self.assertTrue(steps is None or not runs.whole and steps > runs.depth + 1)
                found.add((plain, steps is None))
        self.assertEqual(len(found), 4)


class Many(unittest.TestCase):

    def test_as_many_and_one_more(self):
        for program in programs() + [long_program(0), long_program(1)]:
            for plain in (False, True):
                many = len(Table(program, plain=plain))
                acts = [lambda most: fewest(program, most=most, plain=plain)]
                if fewest(program, plain=plain) != 201:
                    acts.append(lambda most: fault_run(program, most=most, plain=plain))
                if not plain:
                    acts.append(lambda most: is_safe(program, most=most))
                for act in acts:
                    act(many)
                    with self.assertRaises(TooMany) as held:
                        act(many - 1)
                    self.assertEqual(held.exception.limit, many - 1)

    def test_too_many_rows_go_ahead_of_too_many_steps(self):
        program = long_program(1)
        many = len(Table(program))
        for most, limit in ((many, 200), (many - 1, many - 1), (1, 1)):
            with self.assertRaises(TooMany) as held:
                fault_run(program, most=most)
            self.assertEqual(held.exception.limit, limit)

    def test_a_thousand_is_what_there_may_be_at_first(self):
        for act in (is_safe, fewest, fault_run):
            act(main([("rest",)] * 999))
            with self.assertRaises(TooMany) as held:
                act(main([("rest",)] * 1000))
            self.assertEqual(held.exception.limit, 1000)

    def test_keywords(self):
        for act in (is_safe, fewest, fault_run):
            self.assertRaises(TypeError, lambda: act(Program(PLAN), 1000))


class FaultRuns(unittest.TestCase):

    def test_runs(self):
        program = Program(PLAN)
        run = [GO, GO, GO, ("body", 0), ("jump", ("p",))]
        self.assertIs(is_fault_run(program, run), True)
        self.assertIs(is_fault_run(program, tuple(run)), True)
        self.assertIs(is_fault_run(program, run + [GO, GO, GO]), True)
        self.assertIs(is_fault_run(program, run + [GO] * 3 + [("body", 1), GO, GO, GO]), True)
        for other in (run[:-1], [], (), run[:4] + [("jump", ())], [GO, GO, GO, ("body", 1), GO, GO, GO]):
            self.assertIs(is_fault_run(program, other), False)

    def test_spoilt_ones(self):
        program = Program(PLAN)
        run = [GO, GO, GO, ("body", 0), ("jump", ("p",))]
        for at in range(len(run)):
            for data in (("body", 7), ("jump", ("q",)), None, GO + GO, ["go"], "go", ("break", ()), ("body", False)):
                self.assertIs(is_fault_run(program, run[:at] + [data] + run[at + 1:]), False)
            self.assertIs(is_fault_run(program, run[:at] + [run]), False)
        self.assertIs(is_fault_run(program, run + [("body", 9)]), False)
        self.assertIs(is_fault_run(program.with_kept([("main", "p")]), run), False)

    def test_other_values(self):
        for thing in MIXED:
            self.assertIs(is_fault_run(Program(PLAN), thing), False)

    def test_falls(self):
        program = main([("jump", "m")])
        self.assertIs(is_fault_run(program, [("jump", ())]), True)
        self.assertIs(is_fault_run(program, [("jump", ()), GO]), False)
        self.assertIs(is_run(program, [("jump", ())]), True)

    def test_new_lists(self):
        program = Program(PLAN)
        fault_run(program).clear()
        run = fault_run(program)
        self.assertEqual(len(run), 5)
        self.assertEqual(len(faults_of(program, run)), 1)


class Renamed(unittest.TestCase):

    def test_names(self):
        """[13]."""
        for seed in range(30):
            program = rich_program(seed)
            for plain in (False, True):
                self.assertEqual(fewest(renamed_program(program), plain=plain, most=4000),
                                 fewest(program, plain=plain, most=4000))


if __name__ == "__main__":
    unittest.main()
