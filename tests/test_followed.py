"""[43], with [5] and [6]: rows_of and row_of."""

import random
import unittest

from landedback.followed import row_of, rows_of
from landedback.machine import Machine
from landedback.programs import Program
from landedback.runs import faults_of
from landedback.tables import Table
from tests.follow import Moment
from tests.reference import ARMED, DEEP, PLAN, Reference, chance_program, programs
from tests.shapes import rich_program

GO = ("go",)

NESTED = {
    "main": ([], [("get", "p"), ("mark", "m", [], []), ("take", "q", "p"), ("mark", "n", [], []),
                  ("call", "q", "f", ("q", "r"))], "p"),
    "f": (["b", "a"], [("mark", "o", [], []), ("move", "m", "n"), ("get", "c"), ("either", [[("jump", "n")], []]),
                       ("free", "b")], "a"),
}


def by_chance(program, chance, most):
    """A run of at most so many steps."""
    machine = Machine(program)
    while len(machine) < most and not machine.is_over():
        machine.step(chance.choice(machine.wanted()))
    return machine.run()


def expected_rows(program, run, thing):
    """The rows of a run, from the document alone."""
    reference = Reference(program)
    moment = Moment(reference, None, thing is None)
    found = [moment.row()]
    for data in run:
        reference = reference.copied()
        faults = reference.step(data)
        if reference.over or any(fault[3] == thing for fault in faults):
            break
        got = thing is not None and thing < len(reference.things)
        moment = moment.behind(reference, thing if got else None)
        found.append(moment.row())
    return found


class Rows(unittest.TestCase):

    def test_a_thing_of_a_call(self):
        program = Program(NESTED)
        run = [GO] * 8
        none, ended = ("nothing",), ("ended",)
        first = ("new", (), False, (none, none, none), "")
        rows = rows_of(program, run, 0)
        self.assertEqual(len(rows), 9)
        self.assertEqual(rows[0], ("main", first, (0,), ("new", (), (none, none, none), "")))
        self.assertEqual(rows[1], ("main", first, (1,), ("live", ("p",), (none, none, none), "")))
        mark, other = ("mine", (1,), ("p",)), ("mine", (3,), ("p", "q"))
        self.assertEqual(rows[4], ("main", first, (4,), ("live", ("p", "q"), (mark, other, none), "")))
        entry = ("live", (0,), True, (("outer", 0), ("outer", 1), none), "")
        self.assertEqual(rows[5], ("f", entry, (0,), ("live", ("b",), (("outer", 0), ("outer", 1), none), "")))
        mine = ("mine", (0,), ("b",))
        self.assertEqual(rows[6], ("f", entry, (1,), ("live", ("b",), (("outer", 0), ("outer", 1), mine), "")))
        self.assertEqual(rows[7], ("f", entry, (2,), ("live", ("b",), (("outer", 1), ("outer", 1), mine), "")))
        self.assertEqual(rows[8][3][:2], ("live", ("b",)))
        self.assertEqual(rows_of(program, run + [("body", 0), ("jump", ("q",))], 0)[-1],
                         ("main", first, (4,), ("live", ("p", "q"), (other, other, ended), "")))

    def test_another_thing(self):
        program = Program(NESTED)
        run = [GO] * 8 + [("body", 1)]
        rows = rows_of(program, run, 1)
        self.assertEqual([row[3][:2] for row in rows], [("new", ())] * 8 + [("live", ("c",))] * 2)
        self.assertEqual([row[1][:3] for row in rows[4:6]], [("new", (), False), ("new", (), False)])
        # The two marks of main save nothing of this thing, but they are two marks.
        self.assertEqual(rows[-1][3][2][:2], (("outer", 1), ("outer", 1)))
        self.assertEqual(rows[6][3][2][:2], (("outer", 0), ("outer", 1)))

    def test_nothing(self):
        program = Program(NESTED)
        rows = rows_of(program, [GO] * 8, None)
        self.assertEqual([row[3][:2] for row in rows[:5]], [("nothing", ("p", "q", "r")), ("nothing", ("q", "r")),
                                                            ("nothing", ("q", "r")), ("nothing", ("r",)),
                                                            ("nothing", ("r",))])
        self.assertEqual(rows[4][3][2], (("mine", (1,), ("q", "r")), ("mine", (3,), ("r",)), ("nothing",)))
        self.assertEqual(rows[5][1][:3], ("nothing", (1,), False))
        self.assertEqual(rows[5][3][1], ("a", "c"))
        self.assertEqual(rows[8][3][1], ("a",))

    def test_cells_that_tell_the_same(self):
        """The mark is set twice; for a thing of which the same was saved, the cells tell the same."""
        program = Program({"main": ([], [("loop", [("mark", "m", [], []), ("move", "n", "m"), ("get", "p")]),
                                         ("call", "p", "f", ())], "p"), "f": ([], [], "a")})
        loop = [("body", 0), GO, GO, GO]
        run = loop + [("body", 0), GO] + [GO, GO, GO, GO]
        self.assertEqual(rows_of(program, run, 7)[-1][1][3], (("outer", 0), ("outer", 0)))
        machine = Machine(program)
        for data in loop + [("body", 0), GO]:
            machine.step(data)
        told = row_of(program, machine.run(), 0)[3][2]
        self.assertEqual(told, (("mine", (0, 0, 0), ("p",)), ("mine", (0, 0, 0), ())))
        told = row_of(program, machine.run(), 1)[3][2]
        self.assertEqual(told, (("mine", (0, 0, 0), ()), ("mine", (0, 0, 0), ())))

    def test_what_waiting_calls_hold(self):
        program = Program({"main": ([], [("get", "p"), ("free", "p"), ("call", "q", "f", ("q",)), ("clear", "p"),
                                         ("call", "q", "f", ("q",))], "p"), "f": (["a"], [], "a")})
        rows = rows_of(program, [GO] * 6, 0)
        self.assertEqual([row[1][:3] for row in rows if row[0] == "f"], [("gone", (), True), ("gone", (), False)])
        self.assertEqual([row[1][2] for row in rows_of(program, [GO] * 6, None) if row[0] == "f"], [False, False])
        self.assertEqual([row[1][2] for row in rows_of(program, [GO] * 6, 1) if row[0] == "f"], [False, False])

    def test_up_to_a_fault_of_the_thing(self):
        program = Program({"main": ([], [("get", "p"), ("get", "q"), ("free", "q"), ("use", "q"), ("clear", "p")], "p")})
        run = [GO] * 6
        self.assertEqual([fault[0] for fault in faults_of(program, run)], [3, 4])
        for thing, many in ((0, 5), (1, 4), (2, 6), (9, 6), (None, 6)):
            self.assertEqual(len(rows_of(program, run, thing)), many)
        self.assertEqual(len(rows_of(program, run[:5], 0)), 5)
        self.assertIsNone(row_of(program, run[:5], 0))
        self.assertEqual(row_of(program, run[:4], 0)[2], (4,))
        self.assertIsNone(row_of(program, run[:4], 1))
        self.assertEqual(row_of(program, run[:5], 1 + 1)[2], (5,))

    def test_up_to_the_end_and_to_a_fall(self):
        program = Program({"main": ([], [("either", [[("jump", "m")], []])], "p")})
        for thing in (None, 0):
            self.assertEqual(len(rows_of(program, [("body", 0), ("jump", ())], thing)), 2)
            self.assertEqual(len(rows_of(program, [("body", 1), GO], thing)), 2)
            self.assertIsNone(row_of(program, [("body", 0), ("jump", ())], thing))
            self.assertIsNone(row_of(program, [("body", 1), GO], thing))
            self.assertEqual(row_of(program, [("body", 1)], thing)[2], (1,))

    def test_no_steps(self):
        for functions in (PLAN, DEEP, ARMED):
            program = Program(functions)
            for thing in (None, 0, 5):
                self.assertEqual(rows_of(program, [], thing), [row_of(program, (), thing)])

    def test_a_function_that_calls_itself(self):
        program = Program(DEEP)
        run = [GO, GO, GO, ("body", 0), GO, GO, ("body", 0), GO, GO, ("body", 2), GO]
        rows = rows_of(program, run, 1)
        self.assertEqual([row[1][0] for row in rows], ["new"] * 6 + ["live"] * 3 + ["live"] * 2 + ["live"])
        self.assertEqual(rows[-1][2], (1,))
        self.assertEqual(rows[9][1][1:3], ((1,), True))
        self.assertEqual(rows[11], rows[7][:2] + ((1,),) + rows[11][3:])

    def test_the_run_may_be_a_tuple_and_is_not_changed(self):
        program = Program(PLAN)
        run = [GO, GO, GO, ("body", 0), ("jump", ())]
        self.assertEqual(rows_of(program, tuple(run), 0), rows_of(program, run, 0))
        self.assertEqual(row_of(program, tuple(run), 0), row_of(program, run, 0))
        self.assertEqual(run, [GO, GO, GO, ("body", 0), ("jump", ())])

    def test_by_chance(self):
        """Against a plain way to tell them; and they stand in the table, but behind the end or a fault."""
        for seed in range(60):
            program = rich_program(seed) if seed % 2 else chance_program(seed)
            for thing in (0, 1, 2, None):
                table = Table(program, nothing=thing is None, most=4000)
                for number in range(4):
                    run = by_chance(program, random.Random(number), 50)
                    rows = rows_of(program, run, thing)
                    self.assertEqual(rows, expected_rows(program, run, thing))
                    self.assertEqual(row_of(program, run, thing), rows[-1] if len(rows) == len(run) + 1 else None)
                    for row in rows:
                        self.assertIn(row, table)

    def test_one_thing(self):
        """[5]: where the rows are the same, the same steps have the same faults of the thing."""
        for program in programs():
            seen = {}
            for number in range(30):
                run = by_chance(program, random.Random(number), 25)
                for thing in range(3):
                    rows = tuple(rows_of(program, run, thing))
                    found = [fault[:4] for fault in faults_of(program, run) if fault[4] in (thing, None)]
                    mine = tuple(fault for fault in found if fault[0] < len(rows))
                    self.assertEqual(seen.setdefault((rows, tuple(run[:len(rows)])), mine), mine)


if __name__ == "__main__":
    unittest.main()
