"""[32]: runs, played, asked for their faults, walked, and done plainly."""

import inspect
import unittest

from landedback.errors import Broken, Nothing
from landedback.machine import Machine
from landedback.programs import Program
from landedback.runs import faults_of, is_run, plainly, played, walk
from tests.reference import ARMED, PLAN, STALE, chance_program

GO = ("go",)
RUN = [GO, GO, GO, ("body", 0), ("jump", ("p",)), GO, GO, GO, GO, GO]
PLACES = [("main", at) for at in ((0,), (1,), (2,), (3,), (3, 0, 0), (1, 1, 0), (1, 1, 1), (2,), (3,), (4,), (5,))]
RUN[8] = ("body", 1)

ODD = [None, True, False, 0, "go", "", b"go", [], ["go"], (), {}, set(), object(), ("go", ()), ("body", True), ("body", False),
       ("body", 2), ("body", -1), ("body",), ("jump", ["p"]), ("jump", ("q",)), ("jump", ("p", "p")), ("jump",), ("stop",),
       [GO], (GO,), ("break", ()), ("within", ()), ("jump", None), (None,), (["go"],)]


class Played(unittest.TestCase):

    def test_played(self):
        machine = played(Program(PLAN), RUN)
        self.assertIsInstance(machine, Machine)
        self.assertEqual(machine.run(), RUN)
        self.assertEqual(machine.here(), ("main", (5,)))
        self.assertEqual(played(Program(PLAN), tuple(RUN)), machine)
        self.assertEqual(played(Program(PLAN), machine.run()), machine)

    def test_no_steps(self):
        for run in ([], ()):
            self.assertEqual(played(Program(PLAN), run), Machine(Program(PLAN)))

    def test_goes_on_by_itself(self):
        machine = played(Program(PLAN), RUN[:4])
        machine.step(("jump", ()))
        while len(machine):
            machine.back()
        self.assertRaises(Nothing, machine.back)

    def test_ended(self):
        machine = played(Program(PLAN), RUN + [GO, GO])
        self.assertEqual([machine.is_over(), machine.fallen], [True, False])
        self.assertTrue(played(Program({"main": ([], [("jump", "m")], "p")}), [("jump", ())]).fallen)


class Faults(unittest.TestCase):

    def test_faults(self):
        self.assertEqual(faults_of(Program(PLAN), RUN), [(4, "lost", "main", (1,), 0)])
        self.assertEqual(faults_of(Program(PLAN), plainly(Program(PLAN), RUN)), [])
        self.assertEqual(faults_of(Program(PLAN), []), [])

    def test_of_many_steps(self):
        program = Program({"main": ([], [("get", "p"), ("get", "p"), ("free", "p"), ("use", "p"), ("jump", "m")], "p")})
        self.assertEqual(faults_of(program, (GO, GO, GO, GO, ("jump", ()))), [
            (1, "lost", "main", (1,), 0), (3, "gone", "main", (3,), 1), (4, "fall", "main", (4,), None)])

    def test_new_lists(self):
        faults_of(Program(PLAN), RUN).clear()
        self.assertEqual(len(faults_of(Program(PLAN), RUN)), 1)


class IsRun(unittest.TestCase):

    def test_runs(self):
        program = Program(PLAN)
        for many in range(len(RUN) + 1):
            self.assertIs(is_run(program, RUN[:many]), True)
            self.assertIs(is_run(program, tuple(RUN[:many])), True)
        self.assertIs(is_run(program, RUN + [GO, GO]), True)
        self.assertIs(is_run(Program({"main": ([], [("jump", "m")], "p")}), [("jump", ())]), True)

    def test_no_runs(self):
        program = Program(PLAN)
        for thing in (None, True, 0, "", "go", {}, {GO: 1}, set(), {GO}, object(), GO, len, Machine(program), iter([GO]), b""):
            self.assertIs(is_run(program, thing), False, repr(thing))
        for item in ODD:
            for many in range(6):
                self.assertIs(is_run(program, RUN[:many] + [item]), False, repr(item))
                self.assertIs(is_run(program, tuple([item] + RUN[:many])), False, repr(item))
        self.assertIs(is_run(program, RUN + [GO, GO, GO]), False)
        self.assertIs(is_run(Program({"main": ([], [("jump", "m")], "p")}), [("jump", ()), ("jump", ())]), False)

    def test_not_of_each_program(self):
        self.assertIs(is_run(Program(PLAN, kept=[("main", "p")]), RUN), False)
        self.assertIs(is_run(Program(PLAN, kept=[("main", "p")]), plainly(Program(PLAN), RUN)), True)
        armed = [GO, GO, GO, ("break", ())]
        self.assertIs(is_run(Program(ARMED), armed), True)
        self.assertIs(is_run(Program(ARMED, shut=[("main", (0, 0, 2))]), armed), False)


class Broke(unittest.TestCase):

    def test_number(self):
        program = Program(PLAN)
        for ask in (played, faults_of, plainly):
            for item in ODD:
                for many in range(6):
                    for run in (RUN[:many] + [item] + RUN, tuple(RUN[:many]) + (item, None)):
                        with self.assertRaises(Broken) as held:
                            ask(program, run)
                        self.assertEqual(held.exception.at, many)

    def test_over(self):
        for ask in (played, faults_of, plainly):
            with self.assertRaises(Broken) as held:
                ask(Program(PLAN), RUN + [GO, GO, GO])
            self.assertEqual(held.exception.at, len(RUN) + 2)
            with self.assertRaises(Broken) as held:
                ask(Program({"main": ([], [("jump", "m")], "p")}), [("jump", ()), None])
            self.assertEqual(held.exception.at, 1)


class Walk(unittest.TestCase):

    def test_walk(self):
        self.assertTrue(inspect.isgenerator(walk(Program(PLAN), RUN)))
        self.assertEqual(list(walk(Program(PLAN), RUN)), PLACES)
        self.assertEqual(list(walk(Program(PLAN), tuple(RUN))), PLACES)
        self.assertEqual(list(walk(Program(PLAN), [])), [("main", (0,))])
        self.assertEqual(list(walk(Program(PLAN), RUN + [GO, GO])), PLACES + [("main", (6,)), None])

    def test_as_here(self):
        program = Program(STALE)
        run = [("body", 0), GO, GO, GO, GO, GO, GO, ("body", 0), ("jump", ())]
        places = [played(program, run[:many]).here() for many in range(len(run) + 1)]
        self.assertIsNone(places[-1])
        self.assertEqual(list(walk(program, run)), places)

    def test_broken(self):
        for many in range(6):
            told = []
            with self.assertRaises(Broken) as held:
                for place in walk(Program(PLAN), RUN[:many] + [None] + RUN):
                    told.append(place)
            self.assertEqual(held.exception.at, many)
            self.assertEqual(told, PLACES[:many + 1])

    def test_broken_where_it_is_over(self):
        told = []
        with self.assertRaises(Broken) as held:
            for place in walk(Program({"main": ([], [], "p")}), [GO, GO]):
                told.append(place)
        self.assertEqual([held.exception.at, told], [1, [("main", (0,)), None]])

    def test_left_early(self):
        places = walk(Program(PLAN), RUN[:2] + [None])
        self.assertEqual([next(places), next(places)], PLACES[:2])
        places.close()
        self.assertEqual(list(places), [])

    def test_a_run_that_changes(self):
        run = list(RUN)
        places = walk(Program(PLAN), run)
        self.assertEqual(next(places), PLACES[0])
        run.clear()
        self.assertEqual(list(places), PLACES[1:])

    def test_two_at_once(self):
        run = list(RUN)
        pairs = list(zip(walk(Program(PLAN), run), walk(Program(PLAN), run)))
        self.assertEqual(pairs, [(place, place) for place in PLACES])


class Plainly(unittest.TestCase):

    def test_plainly(self):
        self.assertEqual(plainly(Program(PLAN), RUN), RUN[:4] + [("jump", ())] + RUN[5:])
        self.assertEqual(plainly(Program(PLAN), tuple(RUN)), RUN[:4] + [("jump", ())] + RUN[5:])
        self.assertEqual(plainly(Program(PLAN), []), [])

    def test_break_ins(self):
        run = [GO, GO, GO, ("within", ("p", "q")), GO, GO, GO, ("body", 0), ("break", ("q",))]
        self.assertEqual(plainly(Program(ARMED), run),
                         [GO, GO, GO, ("within", ()), GO, GO, GO, ("body", 0), ("break", ())])

    def test_is_a_run_that_goes_the_same_way(self):
        for seed in range(60):
            program = chance_program(seed)
            machine = Machine(program)
            while not machine.is_over() and len(machine) < 30:
                machine.step(machine.wanted()[-1 - len(machine) % len(machine.wanted())])
            told = plainly(program, machine.run())
            self.assertTrue(is_run(program, told))
            self.assertEqual(list(walk(program, told)), list(walk(program, machine.run())))
            self.assertEqual(plainly(program, told), told)

    def test_nothing_is_changed(self):
        run = list(RUN)
        program = Program(PLAN)
        for ask in (played, faults_of, is_run, plainly):
            ask(program, run)
        list(walk(program, run))
        plainly(program, run).clear()
        self.assertEqual([run, program], [RUN, Program(PLAN)])


if __name__ == "__main__":
    unittest.main()
