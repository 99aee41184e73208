"""[30], with [2], [3], [4], [5] and [9]: Machine."""

import copy
import random
import unittest

from landedback.errors import BackError, NoName, Nothing, Over, Unfit, Wrong
from landedback.machine import Machine
from landedback.programs import Program
from tests.reference import ARMED, DEEP, PLAN, Reference, chance_program, programs

GO = ("go",)


def main(body, result="p", **others):
    """A Program of main and other functions."""
    return Program({"main": ([], body, result), **others})


def behind(program, run):
    machine = Machine(program)
    for data in run:
        machine.step(data)
    return machine


def picture(machine):
    """All that a Machine tells."""
    return copy.deepcopy([machine.here(), machine.is_over(), machine.fallen, machine.wanted(), machine.calls(),
                          machine.cells(), machine.armed(), machine.things(), machine.faults(), machine.run(),
                          len(machine)])


def state(machine):
    """What is left as it was by a fall."""
    return [machine.calls(), machine.cells(), machine.armed(), machine.things()]


def explored(program, most, act):
    """Calls act with the Machines behind the shortest runs, at most so many."""
    machines = [Machine(program)]
    for machine in machines:
        act(machine)
        for data in machine.wanted():
            if len(machines) < most:
                machines.append(machine.copied())
                machines[-1].step(data)


class Begin(unittest.TestCase):

    def test_begin(self):
        machine = Machine(Program(PLAN))
        self.assertEqual(picture(machine), [
            ("main", (0,)), False, False, [GO], [(("main", (0,)), {"p": None})], {"m": None}, None, [], [], [], 0])

    def test_wrong(self):
        for thing in (None, True, 0, "main", PLAN, [], (), {}, object(), Program, Machine(Program(PLAN))):
            with self.assertRaises(Wrong) as held:
                Machine(thing)
            self.assertEqual(held.exception.place, 0)

    def test_empty_main(self):
        machine = Machine(main([]))
        self.assertEqual([machine.here(), machine.wanted()], [("main", (0,)), [GO]])
        self.assertEqual(machine.step(GO), [])
        self.assertEqual(picture(machine), [None, True, False, [], [], {}, None, [], [], [GO], 1])

    def test_names_and_cells_ascend(self):
        program = main([("take", "z", "b"), ("move", "n", "a"), ("arm", "c")])
        machine = Machine(program)
        self.assertEqual(list(machine.calls()[0][1]), ["b", "p", "z"])
        self.assertEqual(list(machine.cells()), ["a", "c", "n"])
        machine.step(GO)
        machine.step(GO)
        self.assertEqual(list(machine.calls()[0][1]), ["b", "p", "z"])
        self.assertEqual(list(machine.cells()), ["a", "c", "n"])

    def test_a_name_and_a_cell_may_be_the_same(self):
        machine = behind(main([("mark", "p", [("get", "p")], [])]), [GO, GO])
        self.assertEqual(machine["p"], 0)
        self.assertEqual(machine.cells(), {"p": (0, (0,), {"p": None})})


class Names(unittest.TestCase):

    def test_get_take_clear(self):
        machine = behind(main([("get", "p"), ("take", "q", "p"), ("get", "p"), ("take", "p", "p"), ("clear", "q")]), [])
        self.assertEqual([machine.step(GO), machine["p"], machine["q"]], [[], 0, None])
        self.assertEqual([machine.step(GO), machine["p"], machine["q"]], [[], 0, 0])
        self.assertEqual([machine.step(GO), machine["p"], machine["q"]], [[], 1, 0])
        self.assertEqual([machine.step(GO), machine["p"], machine["q"]], [[], 1, 0])
        self.assertEqual(machine.step(GO), [("lost", "main", (4,), 0)])
        self.assertEqual([machine["p"], machine["q"], machine.things()], [1, None, ["live", "live"]])

    def test_lost_where_it_is_overwritten(self):
        machine = behind(main([("get", "p"), ("get", "p"), ("take", "p", "q")]), [GO])
        self.assertEqual(machine.step(GO), [("lost", "main", (1,), 0)])
        self.assertEqual(machine.step(GO), [("lost", "main", (2,), 1)])
        self.assertEqual(machine.faults(), [(1, "lost", "main", (1,), 0), (2, "lost", "main", (2,), 1)])

    def test_free_and_use(self):
        machine = behind(main([("use", "p"), ("free", "p"), ("get", "p"), ("use", "p"), ("free", "p"), ("use", "p"),
                               ("free", "p"), ("clear", "p"), ("use", "p")]), [])
        told = [machine.step(GO) for _ in range(9)]
        self.assertEqual(told, [[], [], [], [], [], [("gone", "main", (5,), 0)], [("gone", "main", (6,), 0)], [], []])
        self.assertEqual(machine.things(), ["gone"])
        self.assertEqual(machine.faults(), [(5, "gone", "main", (5,), 0), (6, "gone", "main", (6,), 0)])

    def test_holding_goes_on_behind_free(self):
        machine = behind(main([("get", "p"), ("free", "p")]), [GO, GO])
        self.assertEqual([machine["p"], machine.things()], [0, ["gone"]])

    def test_gone_things_are_not_lost(self):
        machine = behind(main([("get", "p"), ("free", "p"), ("get", "p"), ("free", "p")]), [GO] * 4)
        self.assertEqual([machine.faults(), machine.step(GO), machine.things()], [[], [], ["gone", "gone"]])

    def test_lost_at_the_end_of_main(self):
        machine = behind(main([("get", "p"), ("get", "q"), ("take", "r", "q")]), [GO] * 3)
        self.assertEqual(machine.step(GO), [("lost", "main", (3,), 0), ("lost", "main", (3,), 1)])
        self.assertEqual([machine.calls(), machine.is_over(), machine.fallen], [[], True, False])
        self.assertEqual(machine.things(), ["live", "live"])

    def test_lost_again_once_it_came_back(self):
        program = main([("get", "p"), ("mark", "m", [("clear", "p"), ("jump", "m")], []), ("clear", "p"), ("jump", "m")])
        machine = behind(program, [GO, GO])
        self.assertEqual(machine.step(GO), [("lost", "main", (1, 0, 0), 0)])
        self.assertEqual([machine.step(("jump", ("p",))), machine["p"]], [[], 0])
        self.assertEqual(machine.step(GO), [("lost", "main", (2,), 0)])
        self.assertEqual([machine.step(("jump", ("p",))), machine["p"]], [[], 0])
        self.assertEqual(machine.step(GO), [("lost", "main", (2,), 0)])
        self.assertEqual(machine.things(), ["live"])
        self.assertEqual(machine.step(("jump", ())), [])

    def test_no_name(self):
        machine = Machine(Program(DEEP))
        for name in ("a", "m", "main", "zzz", "", 0, None, True, ("p",), ["p"], {}):
            with self.assertRaises(NoName) as held:
                machine[name]
            self.assertIs(held.exception.name, name)
        for data in (GO, GO, GO):
            machine.step(data)
        self.assertEqual([machine["a"], machine["b"]], [0, None])
        self.assertRaises(NoName, lambda: machine["p"])

    def test_no_name_without_a_call(self):
        machine = behind(main([]), [GO])
        self.assertRaises(NoName, lambda: machine["p"])

    def test_not_iterated_over(self):
        machine = Machine(Program(PLAN))
        self.assertRaises(TypeError, lambda: list(machine))
        self.assertRaises(TypeError, lambda: "p" in machine)


class Ways(unittest.TestCase):

    def test_either(self):
        machine = Machine(main([("either", [[("get", "p")], [], [("rest",)]])]))
        self.assertEqual(machine.wanted(), [("body", 0), ("body", 1), ("body", 2)])
        for b, place in ((0, (0, 0, 0)), (1, (1,)), (2, (0, 2, 0))):
            machine.step(("body", b))
            self.assertEqual(machine.here(), ("main", place))
            machine.back()

    def test_either_of_eleven_bodies(self):
        machine = Machine(main([("either", [[]] * 11)]))
        self.assertEqual(machine.wanted(), [("body", b) for b in range(11)])

    def test_loop(self):
        machine = Machine(main([("loop", [("rest",), ("loop", [])])]))
        self.assertEqual(machine.wanted(), [("body", 0), GO])
        places = []
        for data in (("body", 0), GO, ("body", 0), ("body", 0), GO, ("body", 0), GO, GO, GO):
            machine.step(data)
            places.append(machine.here()[1])
        self.assertEqual(places, [(0, 0, 0), (0, 0, 1), (0, 0, 1), (0, 0, 1), (0,), (0, 0, 0), (0, 0, 1), (0,), (1,)])

    def test_mark(self):
        program = main([("get", "p"), ("mark", "m", [("rest",)], []), ("mark", "n", [], [])])
        machine = behind(program, [GO, GO])
        self.assertEqual([machine.here(), machine.cells()], [("main", (1, 0, 0)), {"m": (0, (1,), {"p": 0}), "n": None}])
        machine.step(GO)
        machine.step(GO)
        self.assertEqual(machine.here(), ("main", (3,)))
        self.assertEqual(machine.cells(), {"m": (0, (1,), {"p": 0}), "n": (0, (2,), {"p": 0})})

    def test_call_and_end(self):
        program = main([("get", "q"), ("call", "p", "f", ("q", "q"))], f=(["y", "x"], [("take", "z", "x")], "z"))
        machine = behind(program, [GO, GO])
        self.assertEqual(machine.calls(), [(("main", (1,)), {"p": None, "q": 0}),
                                           (("f", (0,)), {"x": 0, "y": 0, "z": None})])
        machine.step(GO)
        self.assertEqual(machine.here(), ("f", (1,)))
        machine.step(GO)
        self.assertEqual(machine.calls(), [(("main", (2,)), {"p": 0, "q": 0})])

    def test_parameters_in_their_order(self):
        program = main([("get", "p"), ("get", "q"), ("call", "r", "f", ("q", "p"))], f=(["y", "x"], [], "y"))
        machine = behind(program, [GO] * 3)
        self.assertEqual(machine.calls()[1][1], {"x": 0, "y": 1})
        machine.step(GO)
        self.assertEqual(machine["r"], 1)

    def test_lost_at_the_end_of_a_call(self):
        program = main([("rest",), ("get", "p"), ("loop", [("call", "p", "f", ())])],
                       f=([], [("get", "x"), ("get", "y")], "y"))
        machine = behind(program, [GO, GO, ("body", 0), GO, GO, GO])
        self.assertEqual(machine.here(), ("f", (2,)))
        self.assertEqual(machine.step(GO), [("lost", "main", (2, 0, 0), 0), ("lost", "main", (2, 0, 0), 1)])
        self.assertEqual([machine["p"], machine.here()], [2, ("main", (2,))])

    def test_a_call_of_itself(self):
        program = main([("call", "p", "f", ())], f=([], [("get", "x"), ("loop", [("call", "x", "f", ())])], "x"))
        machine = behind(program, [GO, GO] + [("body", 0), GO, GO] * 60)
        self.assertEqual(len(machine.calls()), 62)
        self.assertEqual([place for place, _ in machine.calls()], [("main", (0,))] + [("f", (1, 0, 0))] * 60 + [("f", (1,))])
        machine.step(GO)
        self.assertEqual(machine.step(GO), [("lost", "f", (1, 0, 0), 59)])
        self.assertEqual(len(machine.calls()), 61)
        self.assertEqual(machine["x"], 60)


class Landings(unittest.TestCase):

    def deep(self):
        """f has called itself twice, and stands ahead of its jump into main."""
        return behind(Program(DEEP), [GO, GO, GO, ("body", 0), GO, GO, ("body", 0), GO, GO, ("body", 1), GO])

    def test_into_a_call_that_waits(self):
        machine = self.deep()
        self.assertEqual(machine.things(), ["live", "live", "gone"])
        self.assertEqual(len(machine.calls()), 4)
        self.assertEqual(machine.cells(), {"m": (0, (1,), {"p": 0, "q": None})})
        self.assertEqual(machine.wanted(), [("jump", ()), ("jump", ("p",)), ("jump", ("p", "q")), ("jump", ("q",))])
        self.assertEqual(machine.step(("jump", ())), [("lost", "main", (1,), 1)])
        self.assertEqual(machine.calls(), [(("main", (1, 1, 0)), {"p": 0, "q": None})])
        self.assertEqual(machine.cells(), {"m": (0, (1,), {"p": 0, "q": None})})

    def test_the_name_of_the_waiting_call_is_not_made(self):
        program = main([("get", "p"), ("mark", "m", [("call", "p", "f", ())], [])],
                       f=([], [("get", "x"), ("jump", "m")], "x"))
        machine = behind(program, [GO] * 4)
        self.assertEqual(machine.step(("jump", ())), [("lost", "main", (1,), 1)])
        self.assertEqual([machine["p"], machine.here()], [0, ("main", (2,))])

    def test_all_parts_of_what_was_saved(self):
        body = [("get", "p"), ("get", "q"), ("mark", "m", [("get", "p"), ("get", "q"), ("jump", "m")], [("use", "p")])]
        machine = behind(main(body), [GO, GO, GO])
        self.assertEqual([machine.step(GO), machine.step(GO)],
                         [[("lost", "main", (2, 0, 0), 0)], [("lost", "main", (2, 0, 1), 1)]])
        for names, held, lost in (((), [2, 3], []), (("p",), [0, 3], [2]), (("q",), [2, 1], [3]),
                                  (("p", "q"), [0, 1], [2, 3])):
            told = machine.step(("jump", names))
            self.assertEqual([told, machine["p"], machine["q"], machine.here()],
                             [[("lost", "main", (2,), thing) for thing in lost]] + held + [("main", (2, 1, 0))])
            machine.back()

    def test_an_empty_landing(self):
        machine = behind(main([("mark", "m", [("jump", "m")], []), ("rest",)]), [GO, ("jump", ())])
        self.assertEqual(machine.here(), ("main", (1,)))
        machine = behind(main([("loop", [("mark", "m", [("jump", "m")], [])])]), [("body", 0), GO, ("jump", ())])
        self.assertEqual(machine.here(), ("main", (0,)))

    def test_again_and_again_when_the_body_is_over(self):
        program = main([("mark", "m", [], [("get", "q"), ("free", "q")]), ("get", "p"), ("free", "p"), ("jump", "m")])
        machine = behind(program, [GO])
        for time in range(20):
            self.assertEqual([machine.step(GO), machine.step(GO), machine.here()], [[], [], ("main", (3,))])
            self.assertEqual(machine.cells(), {"m": (0, (0,), {"p": None, "q": None})})
            self.assertEqual(machine.step(("jump", ("p",))), [])
            self.assertEqual([machine.here(), machine["p"]], [("main", (0, 1, 0)), None])
            self.assertEqual([machine.step(GO), machine.step(GO), machine["q"]], [[], [], 2 * time + 1])
        self.assertFalse(machine.is_over())

    def test_a_mark_within_its_own_landing(self):
        machine = behind(main([("mark", "m", [("jump", "m")], [("jump", "m")])]), [GO] + [("jump", ())] * 30)
        self.assertEqual([machine.here(), machine.faults()], [("main", (0, 1, 0)), []])

    def test_a_mark_is_set_anew(self):
        program = main([("loop", [("get", "p"), ("mark", "m", [], []), ("free", "p")]), ("jump", "m")])
        machine = behind(program, [("body", 0), GO, GO, GO, ("body", 0), GO, GO])
        self.assertEqual(machine.cells(), {"m": (0, (0, 0, 1), {"p": 1})})

    def test_kept_names_never_come_back(self):
        body = [("get", "p"), ("mark", "m", [("get", "q"), ("jump", "m")], [])]
        program = main(body).with_kept([("main", "q")])
        machine = behind(program, [GO, GO, GO])
        self.assertEqual(machine.cells(), {"m": (0, (1,), {"p": 0})})
        self.assertEqual(machine.wanted(), [("jump", ()), ("jump", ("p",))])
        for names in (("q",), ("p", "q")):
            self.assertRaises(Unfit, machine.step, ("jump", names))
        kept = behind(program.with_kept([("main", "p"), ("main", "q")]), [GO, GO, GO])
        self.assertEqual([kept.cells(), kept.wanted()], [{"m": (0, (1,), {})}, [("jump", ())]])

    def test_a_gone_thing_comes_back(self):
        body = [("get", "p"), ("mark", "m", [("free", "p"), ("clear", "p"), ("jump", "m")], [("use", "p")])]
        machine = behind(main(body), [GO] * 4)
        self.assertEqual(machine.trial(lambda one: [one.step(("jump", ())), one.step(GO)]), [[], []])
        self.assertEqual([machine.step(("jump", ("p",))), machine.step(GO)], [[], [("gone", "main", (1, 1, 0), 0)]])

    def test_what_is_held_in_a_waiting_call_is_not_lost(self):
        program = main([("get", "p"), ("call", "q", "f", ("p",))],
                       f=(["a"], [("mark", "m", [("call", "b", "g", ("a",))], [])], "b"), g=(["c"], [("jump", "m")], "c"))
        machine = behind(program, [GO] * 4)
        self.assertEqual(len(machine.calls()), 3)
        self.assertEqual(machine.step(("jump", ("a", "b"))), [])
        self.assertEqual(machine.calls(), [(("main", (1,)), {"p": 0, "q": None}), (("f", (1,)), {"a": 0, "b": None})])


class Cells(unittest.TestCase):

    def test_move(self):
        program = main([("mark", "m", [], []), ("move", "n", "m"), ("get", "p"), ("mark", "m", [], []), ("move", "o", "o"),
                        ("move", "m", "o")])
        machine = behind(program, [GO, GO, GO, GO])
        self.assertEqual(machine.cells(), {"m": (0, (3,), {"p": 0}), "n": (0, (0,), {"p": None}), "o": None})
        machine.step(GO)
        machine.step(GO)
        self.assertEqual(machine.cells(), {"m": None, "n": (0, (0,), {"p": None}), "o": None})

    def test_landing_at_a_moved_mark(self):
        program = main([("mark", "m", [], [("rest",)]), ("move", "n", "m"), ("get", "p"), ("mark", "m", [("jump", "n")], [])])
        machine = behind(program, [GO] * 4)
        self.assertEqual(machine.step(("jump", ("p",))), [("lost", "main", (0,), 0)])
        self.assertEqual(machine.here(), ("main", (0, 1, 0)))
        self.assertEqual(machine.cells(), {"m": (0, (3,), {"p": 0}), "n": (0, (0,), {"p": None})})

    def test_ended(self):
        program = main([("call", "p", "f", ()), ("move", "o", "n"), ("jump", "m")],
                       f=([], [("mark", "m", [("move", "n", "m")], [])], "x"))
        machine = behind(program, [GO, GO, GO])
        self.assertEqual(machine.cells(), {"m": (1, (0,), {"x": None}), "n": (1, (0,), {"x": None}), "o": None})
        machine.step(GO)
        self.assertEqual(machine.cells(), {"m": "ended", "n": "ended", "o": None})
        machine.step(GO)
        self.assertEqual(machine.cells(), {"m": "ended", "n": "ended", "o": "ended"})
        self.assertEqual(machine.step(("jump", ())), [("fall", "main", (2,), None)])

    def test_ended_by_being_cut_off(self):
        program = main([("mark", "m", [("call", "p", "f", ())], [])],
                       f=([], [("mark", "n", [("call", "x", "g", ())], [])], "x"),
                       g=([], [("mark", "o", [], []), ("jump", "m")], "x"))
        machine = behind(program, [GO] * 5)
        self.assertEqual(machine.cells(), {"m": (0, (0,), {"p": None}), "n": (1, (0,), {"x": None}), "o": (2, (0,), {"x": None})})
        machine.step(("jump", ()))
        self.assertEqual(machine.cells(), {"m": (0, (0,), {"p": None}), "n": "ended", "o": "ended"})

    def test_marks_of_elder_calls_of_the_same_function(self):
        program = main([("call", "p", "f", ())],
                       f=([], [("either", [[("mark", "m", [], []), ("call", "x", "f", ())],
                                           [("mark", "n", [], []), ("call", "x", "f", ())], []])], "x"))
        machine = behind(program, [GO, ("body", 0), GO, GO, ("body", 1), GO, GO, ("body", 2)])
        self.assertEqual(machine.cells(), {"m": (1, (0, 0, 0), {"x": None}), "n": (2, (0, 1, 0), {"x": None})})
        machine.step(GO)
        self.assertEqual(machine.cells(), {"m": (1, (0, 0, 0), {"x": None}), "n": (2, (0, 1, 0), {"x": None})})
        machine.step(GO)
        self.assertEqual(machine.cells(), {"m": (1, (0, 0, 0), {"x": None}), "n": "ended"})
        machine.step(GO)
        self.assertEqual(machine.cells(), {"m": "ended", "n": "ended"})

    def test_ended_with_main(self):
        machine = behind(main([("mark", "m", [], []), ("arm", "m"), ("arm", "n")]), [GO] * 4)
        self.assertEqual([machine.cells(), machine.armed(), machine.calls()], [{"m": "ended", "n": None}, "n", []])


class BreakIns(unittest.TestCase):

    def test_arm_and_rest(self):
        machine = behind(main([("arm", "m"), ("arm", "n"), ("rest",), ("rest",)]), [])
        armed = []
        for _ in range(4):
            machine.step(GO)
            armed.append(machine.armed())
        self.assertEqual(armed, ["m", "n", None, None])

    def test_armed_behind_the_end_of_a_call(self):
        machine = behind(main([("call", "p", "f", ())], f=([], [("arm", "m")], "x")), [GO, GO, GO])
        self.assertEqual([machine.armed(), machine.here()], ["m", ("main", (1,))])
        machine.step(GO)
        self.assertEqual([machine.armed(), machine.is_over()], ["m", True])

    def test_in_the_place_of_each_step(self):
        each = [("get", "p"), ("take", "p", "q"), ("clear", "p"), ("use", "p"), ("free", "p"), ("call", "p", "f", ()),
                ("either", [[], []]), ("loop", []), ("mark", "n", [], []), ("jump", "n"), ("move", "n", "m"), ("arm", "m"),
                ("rest",)]
        own = {"either": [("body", 0), ("body", 1)], "loop": [("body", 0), GO], "jump": [("jump", ())]}
        for one in each:
            program = main([("mark", "m", [("arm", "m")], [("rest",)]), one], f=([], [], "x")).with_kept([("main", "p")])
            machine = behind(program, [GO, GO])
            names = [()] if one[0] != "take" else [(), ("q",)]
            words = ["break", "within"] if one[0] == "get" else ["break"]
            expected = [(word, some) for word in words for some in names]
            self.assertEqual(machine.wanted(), sorted(own.get(one[0], [GO]) + expected), one)
            self.assertEqual(machine.step(("break", ())), [])
            self.assertEqual([machine.here(), machine.armed()], [("main", (0, 1, 0)), None])

    def test_at_ends(self):
        program = main([("mark", "m", [("arm", "m")], []), ("call", "p", "f", ())], f=([], [], "x"))
        machine = behind(program, [GO, GO, GO])
        self.assertEqual([machine.here(), machine.wanted()], [("f", (0,)), [("break", ()), ("break", ("p",)), GO]])
        machine.step(GO)
        self.assertEqual([machine.here(), machine.wanted()], [("main", (2,)), [("break", ()), ("break", ("p",)), GO]])
        machine.step(("break", ()))
        self.assertEqual([machine.here(), machine.wanted()], [("main", (1,)), [GO]])

    def test_the_step_is_not_done(self):
        machine = behind(main([("mark", "m", [("get", "p"), ("arm", "m"), ("free", "p")], [])]), [GO] * 3)
        self.assertEqual(machine.step(("break", ())), [])
        self.assertEqual([machine.things(), machine["p"]], [["live"], 0])

    def test_within_a_get(self):
        machine = behind(main([("get", "q"), ("mark", "m", [("arm", "m"), ("get", "p")], [("use", "p")])]), [GO] * 3)
        self.assertEqual(machine.wanted(), sorted([(word, names) for word in ("break", "within")
                                                   for names in ((), ("p",), ("p", "q"), ("q",))] + [GO]))
        self.assertEqual(machine.step(("within", ("p", "q"))), [("lost", "main", (1,), 1)])
        self.assertEqual([machine.things(), machine["p"], machine["q"], machine.here(), machine.armed()],
                         [["live", "live"], None, 0, ("main", (1, 1, 0)), None])

    def test_within_a_get_more_is_lost(self):
        program = main([("mark", "m", [("arm", "m"), ("call", "q", "f", ())], [])],
                       f=([], [("get", "x"), ("get", "y"), ("get", "z")], "x"))
        machine = behind(program, [GO] * 5)
        self.assertEqual(machine.step(("within", ())), [("lost", "main", (0,), thing) for thing in range(3)])
        self.assertEqual(machine.things(), ["live"] * 3)

    def test_no_within_ahead_of_others(self):
        machine = behind(main([("mark", "m", [("arm", "m"), ("use", "p")], [])]), [GO, GO])
        self.assertRaises(Unfit, machine.step, ("within", ()))

    def test_by_what_the_cell_tells_then(self):
        program = main([("mark", "m", [("arm", "m")], []), ("get", "p"), ("mark", "m", [("rest",)], [])])
        machine = behind(program, [GO, GO, GO])
        self.assertEqual(machine.trial(lambda one: [one.step(("break", ("p",))), one.here()]),
                         [[("lost", "main", (0,), 0)], ("main", (1,))])
        machine.step(GO)
        self.assertEqual([machine.step(("break", ("p",))), machine.here(), machine["p"]], [[], ("main", (3,)), 0])

    def test_a_jump_rests(self):
        machine = behind(main([("mark", "m", [("arm", "m"), ("jump", "m")], [("rest",)])]), [GO, GO, ("jump", ())])
        self.assertEqual([machine.armed(), machine.wanted()], [None, [GO]])

    def test_shut(self):
        body = [("mark", "m", [("arm", "m"), ("get", "p")], []), ("jump", "m")]
        program = main(body).with_shut([("main", (0, 0, 1))])
        machine = behind(program, [GO, GO])
        self.assertEqual([machine.here(), machine.wanted()], [("main", (0, 0, 1)), [GO]])
        for data in (("break", ()), ("within", ())):
            self.assertRaises(Unfit, machine.step, data)
        machine.step(GO)
        self.assertEqual(machine.wanted(), [("break", ()), ("break", ("p",)), ("jump", ()), ("jump", ("p",))])
        shut = behind(program.with_shut([("main", (1,))]), [GO, GO, GO])
        self.assertEqual(shut.wanted(), [("jump", ()), ("jump", ("p",))])

    def test_shut_is_of_the_call_at_work(self):
        program = main([("arm", "m"), ("call", "p", "f", ())], f=([], [("rest",)], "x"))
        machine = behind(program.with_shut([("main", (1,))]), [GO])
        self.assertEqual(machine.wanted(), [GO])
        machine.step(GO)
        self.assertEqual(machine.wanted(), [("break", ()), GO])
        machine = behind(program.with_shut([("f", (0,))]), [GO])
        self.assertEqual(machine.wanted(), [("break", ()), GO])
        machine.step(GO)
        self.assertEqual(machine.wanted(), [GO])

    def test_a_shut_end(self):
        machine = behind(main([("arm", "m")]).with_shut([("main", (1,))]), [GO])
        self.assertEqual(machine.wanted(), [GO])


class Falls(unittest.TestCase):

    def falls(self, machine, data, place):
        held = state(machine)
        faults = machine.faults()
        steps = len(machine)
        self.assertEqual(machine.step(data), [("fall",) + place + (None,)])
        self.assertEqual(state(machine), held)
        self.assertEqual([machine.here(), machine.is_over(), machine.fallen, machine.wanted()], [None, True, True, []])
        self.assertEqual(machine.faults(), faults + [(steps, "fall") + place + (None,)])
        self.assertRaises(Over, machine.step, data)
        self.assertEqual([machine.back(), state(machine), machine.faults()], [data, held, faults])
        self.assertEqual([machine.here(), machine.fallen, machine.is_over()], [place, False, False])

    def test_jump_at_nothing(self):
        machine = behind(main([("get", "p"), ("arm", "n"), ("jump", "m")]), [GO, GO])
        self.assertEqual(machine.wanted(), [("break", ()), ("jump", ())])
        self.falls(machine, ("jump", ()), ("main", (2,)))
        self.falls(machine, ("break", ()), ("main", (2,)))
        self.assertRaises(Unfit, machine.step, ("jump", ("p",)))
        self.assertRaises(Unfit, machine.step, ("break", ("p",)))

    def test_break_in_at_an_end(self):
        program = main([("call", "p", "f", ())], f=([], [("get", "x"), ("arm", "m")], "x"))
        machine = behind(program, [GO, GO, GO])
        self.falls(machine, ("break", ()), ("f", (2,)))

    def test_within(self):
        machine = behind(main([("arm", "m"), ("get", "p"), ("get", "p")]), [GO])
        self.assertEqual(machine.wanted(), [("break", ()), GO, ("within", ())])
        self.falls(machine, ("within", ()), ("main", (1,)))
        self.falls(machine, ("break", ()), ("main", (1,)))
        machine.step(GO)
        self.falls(machine, ("within", ()), ("main", (2,)))

    def test_at_what_has_ended(self):
        program = main([("call", "p", "f", ()), ("get", "q"), ("jump", "m")],
                       f=([], [("mark", "m", [("arm", "m")], []), ("get", "x")], "x"))
        machine = behind(program, [GO] * 5)
        for place in (1, 2):
            self.assertEqual([machine.cells(), machine.armed()], [{"m": "ended"}, "m"])
            self.falls(machine, ("break", ()), ("main", (place,)))
            machine.step(GO if place == 1 else ("jump", ()))
        self.assertTrue(machine.fallen)

    def test_names_behind_a_fall(self):
        machine = behind(main([("get", "p"), ("jump", "m")]), [GO, ("jump", ())])
        self.assertEqual([machine["p"], machine.calls()], [0, [(("main", (1,)), {"p": 0})]])
        self.assertRaises(NoName, lambda: machine["q"])

    def test_an_ended_main_has_not_fallen(self):
        machine = behind(main([]), [GO])
        self.assertEqual([machine.fallen, machine.is_over()], [False, True])


class Data(unittest.TestCase):

    def wrong(self):
        return [
            None, True, False, 0, 1, "", "go", b"go", [], (), {}, set(), object(), len, ["go"], [GO], (GO,), (None,), (True,),
            (0,), ("",), ("Go",), ("go", ()), ("go", None), ("go", 0), ("stop",), ("end",), ("body",), ("body", 0, 0),
            ("body", True), ("body", False), ("body", "0"), ("body", None), ("body", (0,)), ("body", [0]), ("body", -1),
            ("body", 3), ("body", 10 ** 30), ["body", 0], ("bodies", 0), ("jump",), ("jump", None), ("jump", []), ("jump", ["p"]),
            ("jump", "p"), ("jump", ""), ("jump", {}), ("jump", {"p"}), ("jump", 0), ("jump", False), ("jump", ("p", "p")),
            ("jump", ("q", "p")), ("jump", ("z",)), ("jump", ("p", "z")), ("jump", (0,)), ("jump", (None,)), ("jump", (["p"],)),
            ("jump", (True,)), ("jump", ("",)), ["jump", ()], ("jump", (), ()), ("break",), ("break", []), ("break", ["p"]),
            ("break", "p"), ("break", ("q", "p")), ("break", ("z",)), ["break", ()], ("within",), ("within", []),
            ("within", ("q", "p")), ("within", ("z",)), (["go"],), ({},), ((),), ("go", "go"), ("break", ("p", "p")),
        ]

    def stands(self):
        """Machines ahead of an either, a loop, a jump, a get, an end, each armed."""
        for one in (("either", [[], [], []]), ("loop", []), ("jump", "m"), ("get", "p"), None):
            body = [("mark", "m", [("arm", "m")], []), ("take", "q", "p")] + ([one] if one else [])
            yield behind(main(body), [GO, GO, GO])

    def test_unfit(self):
        for machine in self.stands():
            held = picture(machine)
            for data in self.wrong():
                self.assertRaises(Unfit, machine.step, data)
            self.assertEqual(picture(machine), held)

    def test_just_what_is_wanted(self):
        names = [(), ("p",), ("q",), ("p", "q")]
        every = [GO] + [("body", b) for b in range(4)]
        every += [(word, some) for word in ("break", "jump", "within") for some in names]
        for machine in self.stands():
            told = []
            for data in every:
                try:
                    machine.step(data)
                except Unfit:
                    continue
                told.append(data)
                machine.back()
            self.assertEqual(machine.wanted(), sorted(told))

    def test_over(self):
        for machine in (behind(main([]), [GO]), behind(main([("jump", "m")]), [("jump", ())])):
            held = picture(machine)
            for data in self.wrong() + [GO, ("body", 0), ("jump", ()), ("break", ())]:
                self.assertRaises(Over, machine.step, data)
            self.assertEqual(picture(machine), held)

    def test_data_equal_to_all(self):
        class Same:
            __hash__ = None

            def __eq__(self, other):
                return True

        for machine in self.stands():
            for data in (Same(), ("body", Same()), (Same(),), ("jump", Same()), ("jump", (Same(),)), (Same(), 0)):
                self.assertRaises(Unfit, machine.step, data)


class Back(unittest.TestCase):

    def test_back(self):
        def check(machine):
            if len(machine) == 0:
                self.assertRaises(Nothing, machine.back)
                return
            held = picture(machine)
            last = machine.run()[-1]
            self.assertEqual(machine.back(), last)
            self.assertEqual(len(machine), len(held[9]) - 1)
            machine.step(last)
            self.assertEqual(picture(machine), held)

        for program in programs():
            explored(program, 150, check)

    def test_all_the_way(self):
        machine = Machine(Program(DEEP))
        pictures = []
        run = [GO, GO, GO, ("body", 0), GO, GO, ("body", 1), GO, ("jump", ("p",)), GO, GO, GO]
        for data in run:
            pictures.append(picture(machine))
            machine.step(data)
        self.assertTrue(machine.is_over())
        while pictures:
            self.assertEqual(machine.back(), run[len(machine)])
            self.assertEqual(picture(machine), pictures.pop())
        self.assertRaises(Nothing, machine.back)

    def test_copied(self):
        machine = behind(Program(PLAN), [GO, GO, GO])
        other = machine.copied()
        held = picture(machine)
        self.assertEqual(picture(other), held)
        self.assertIsNot(other, machine)
        other.step(("body", 0))
        other.step(("jump", ("p",)))
        self.assertEqual(picture(machine), held)
        machine.step(("body", 1))
        self.assertEqual(other.run(), [GO, GO, GO, ("body", 0), ("jump", ("p",))])
        while len(other):
            other.back()
        self.assertRaises(Nothing, other.back)
        self.assertEqual(machine.run(), [GO, GO, GO, ("body", 1)])


class Trials(unittest.TestCase):

    def test_returns_what_act_returns(self):
        machine = Machine(Program(PLAN))
        thing = object()
        self.assertIs(machine.trial(lambda one: thing), thing)
        self.assertIsNone(machine.trial(lambda one: None))
        self.assertIs(machine.trial(lambda one: one), machine)

    def test_taken_back(self):
        machine = behind(Program(PLAN), [GO, GO])
        held = picture(machine)

        def act(one):
            told = [one.step(GO), one.step(("body", 0)), one.step(("jump", ()))]
            return told + [one.here(), len(one), one["p"]]

        self.assertEqual(machine.trial(act), [[], [], [], ("main", (1, 1, 0)), 5, 0])
        self.assertEqual(picture(machine), held)
        self.assertEqual(machine.back(), GO)

    def test_left_by_an_error(self):
        machine = behind(Program(PLAN), [GO, GO])
        held = picture(machine)

        class Own(BaseException):
            pass

        for error in (Own("x"), KeyError("y"), Nothing(), Over(), Unfit(), StopIteration()):
            def act(one):
                one.step(GO)
                one.step(("body", 1))
                raise error

            with self.assertRaises(BaseException) as raised:
                machine.trial(act)
            self.assertIs(raised.exception, error)
            self.assertEqual(picture(machine), held)
        with self.assertRaises(Unfit):
            machine.trial(lambda one: [one.step(GO), one.step(GO)])
        self.assertEqual(picture(machine), held)
        self.assertEqual([machine.back(), machine.back()], [GO, GO])

    def test_back_in_a_trial(self):
        machine = behind(Program(PLAN), [GO, GO])

        def act(one):
            self.assertRaises(Nothing, one.back)
            one.step(GO)
            one.step(("body", 1))
            told = [one.back(), one.back()]
            self.assertRaises(Nothing, one.back)
            self.assertEqual(len(one), 2)
            one.step(GO)
            return told

        self.assertEqual(machine.trial(act), [("body", 1), GO])
        self.assertEqual(machine.run(), [GO, GO])
        self.assertEqual(machine.back(), GO)

    def test_within_one_another(self):
        machine = behind(Program(PLAN), [GO])
        seen = []

        def inner(one):
            self.assertRaises(Nothing, one.back)
            one.step(("body", 0))
            one.step(("jump", ("p",)))
            seen.append(len(one))
            raise KeyError("out")

        def outer(one):
            one.step(GO)
            one.step(GO)
            held = picture(one)
            self.assertRaises(KeyError, one.trial, inner)
            self.assertEqual(picture(one), held)
            one.back()
            self.assertEqual(one.trial(lambda two: two.trial(lambda three: [three.step(GO), len(three)])), [[], 3])
            self.assertEqual(len(one), 2)
            one.back()
            self.assertRaises(Nothing, one.back)
            one.step(GO)
            return len(one)

        held = picture(machine)
        self.assertEqual(machine.trial(outer), 2)
        self.assertEqual(seen, [5])
        self.assertEqual(picture(machine), held)
        machine.back()
        self.assertRaises(Nothing, machine.back)

    def test_copied_in_a_trial(self):
        machine = behind(Program(PLAN), [GO])
        other = machine.trial(lambda one: [one.step(GO), one.copied()])[1]
        self.assertEqual([machine.run(), other.run()], [[GO], [GO, GO]])
        other.step(GO)
        self.assertEqual([other.back(), other.back(), other.back()], [GO, GO, GO])
        self.assertRaises(Nothing, other.back)
        self.assertEqual(machine.run(), [GO])

        def act(one):
            made = one.copied()
            made.back()
            return len(made)

        self.assertEqual([machine.trial(act), len(machine)], [0, 1])

    def test_an_ended_run(self):
        machine = behind(main([("jump", "m")]), [("jump", ())])
        self.assertTrue(machine.trial(lambda one: one.fallen))
        self.assertRaises(Over, machine.trial, lambda one: one.step(("jump", ())))
        machine.back()
        self.assertTrue(machine.trial(lambda one: [one.step(("jump", ())), one.fallen])[1])
        self.assertFalse(machine.fallen)


class Equal(unittest.TestCase):

    def test_equal(self):
        one, other = Machine(Program(PLAN)), Machine(Program(PLAN))
        self.assertIs(one == other, True)
        self.assertIs(one != other, False)
        one.step(GO)
        self.assertIs(one == other, False)
        self.assertIs(one != other, True)
        other.step(GO)
        self.assertIs(one == other, True)
        self.assertIs(one == one.copied(), True)

    def test_other_programs(self):
        one = Machine(Program(PLAN))
        self.assertIs(one == Machine(Program(PLAN, kept=[("main", "p")])), False)
        self.assertIs(one == Machine(Program(PLAN, shut=[("main", (0,))])), False)

    def test_other_runs(self):
        one = behind(Program(PLAN), [GO, GO, GO, ("body", 0)])
        self.assertIs(one == behind(Program(PLAN), [GO, GO, GO, ("body", 1)]), False)

    def test_equal_to_nothing_else(self):
        machine = Machine(Program(PLAN))
        for other in (None, 0, True, [], Program(PLAN), object(), Machine, machine.run()):
            self.assertIs(machine == other, False)
            self.assertIs(machine != other, True)

    def test_len(self):
        machine = Machine(Program(PLAN))
        for many in range(4):
            self.assertEqual(len(machine), many)
            machine.step(machine.wanted()[0])


class Told(unittest.TestCase):

    def test_what_was_told_may_change(self):
        machine = behind(Program(ARMED), [GO, GO, GO, GO])
        held = picture(machine)
        machine.wanted().clear()
        machine.calls()[0][1]["p"] = 7
        machine.calls().clear()
        machine.cells()["m"][2]["p"] = 7
        machine.cells().clear()
        machine.things().append("live")
        machine.faults().append("more")
        machine.run().clear()
        machine.trial(lambda one: one.run().clear())
        self.assertEqual(picture(machine), held)

    def test_faults_that_were_told_may_change(self):
        machine = behind(main([("get", "p"), ("clear", "p")]), [GO])
        told = machine.step(GO)
        told.clear()
        self.assertEqual(machine.faults(), [(1, "lost", "main", (1,), 0)])

    def test_no_dict_stands_twice(self):
        machine = behind(main([("mark", "m", [], []), ("move", "n", "m")]), [GO, GO])
        told = machine.cells()
        told["m"][2]["p"] = 7
        self.assertEqual(told["n"], (0, (0,), {"p": None}))

    def test_the_data_handed_in(self):
        machine = behind(Program(PLAN), [GO, GO, GO, ("body", 0)])
        names = ("p",)
        machine.step(("jump", names))
        self.assertEqual(machine.run()[-1], ("jump", ("p",)))

    def test_the_program_is_not_changed(self):
        program = Program(PLAN)
        explored(program, 100, picture)
        self.assertEqual(program, Program(PLAN))

    def test_queries_change_nothing(self):
        def check(machine):
            self.assertEqual(picture(machine), picture(machine))

        explored(Program(ARMED), 300, check)


class AgainstTheReference(unittest.TestCase):

    def same(self, machine, other):
        self.assertEqual(machine.wanted(), other.wanted())
        self.assertEqual([machine.here(), machine.is_over(), machine.fallen], [other.here(), other.over, other.fell])
        self.assertEqual([machine.calls(), machine.cells()], [other.told_calls(), other.cells])
        self.assertEqual([machine.armed(), machine.things()], [other.armed, other.things])
        self.assertEqual(machine.faults(), other.faults)

    def test_shortest_runs(self):
        for program in programs():
            pairs = [(Machine(program), Reference(program))]
            for machine, other in pairs:
                self.same(machine, other)
                for data in other.wanted():
                    if len(pairs) < 1000:
                        pairs.append((machine.copied(), other.copied()))
                        self.assertEqual(pairs[-1][0].step(data), pairs[-1][1].step(data))

    def test_programs_by_chance(self):
        words = set()
        for seed in range(400):
            program = chance_program(seed)
            chance = random.Random(seed)
            for _ in range(3):
                machine, other = Machine(program), Reference(program)
                while not other.over and len(machine) < 60:
                    data = chance.choice(other.wanted())
                    self.assertEqual(machine.step(data), other.step(data), (program.functions(), machine.run()))
                    self.same(machine, other)
                words |= {fault[1] for fault in machine.faults()} | {data[0] for data in machine.run()}
        self.assertEqual(words, {"lost", "gone", "fall", "go", "body", "jump", "break", "within"})


def shadow(machine, thing):
    """Which names hold a thing, and which ones of the saved ones are it."""
    words = machine.things()
    word = "new" if thing >= len(words) else words[thing]
    calls = [(place, tuple([name for name in held if held[name] == thing])) for place, held in machine.calls()]
    cells = []
    for cell, told in machine.cells().items():
        if isinstance(told, tuple):
            told = told[:2] + (tuple([name for name in told[2] if told[2][name] == thing]),)
        cells.append((cell, told))
    return (word, tuple(calls), tuple(cells), machine.armed(), thing == len(words), machine.fallen)


class OneThing(unittest.TestCase):

    def test_faults_hang_on_the_shadow(self):
        """[5]: behind the same shadow the same data lead to the same shadow and the same faults."""
        for program in programs() + [chance_program(seed) for seed in range(20)]:
            seen = {}

            def check(machine):
                for thing in range(3):
                    ahead = shadow(machine, thing)
                    for data in machine.wanted():
                        told = machine.trial(lambda one: [
                            tuple([fault[:3] for fault in one.step(data) if fault[3] == thing]), shadow(one, thing)[:4]])
                        self.assertEqual(seen.setdefault((ahead, data), told), told)

            explored(program, 400, check)
            self.assertTrue(seen)


def control(machine):
    """Where the calls stand, and what the cells tell, saved ones left aside."""
    cells = [(cell, told[:2] if isinstance(told, tuple) else told) for cell, told in machine.cells().items()]
    return [[place for place, _ in machine.calls()], cells, machine.armed(), machine.here(), machine.fallen]


class Control(unittest.TestCase):

    def test_neither_on_names_nor_on_what_is_kept(self):
        """[9]: the plain run, in a Program in which all names are kept, goes the same way."""
        for program in programs() + [chance_program(seed) for seed in range(20)]:
            every = [(function, name) for function in program.functions() for name in program.names(function)]
            bare, kept = Machine(program), Machine(program.with_kept(every))

            def check(machine):
                while len(bare):
                    bare.back()
                    kept.back()
                for data in machine.run():
                    plain = (data[0], ()) if data[0] in ("jump", "break", "within") else data
                    bare.step(plain)
                    kept.step(plain)
                self.assertEqual(control(machine), control(bare))
                self.assertEqual(control(machine), control(kept))

            explored(program, 400, check)


class Errors(unittest.TestCase):

    def test_an_error_changes_nothing(self):
        machine = behind(Program(ARMED), [GO, GO, GO])
        held = picture(machine)
        for act in (lambda: machine.step(None), lambda: machine.step(("body", 0)), lambda: machine["zzz"],
                    lambda: machine.trial(lambda one: one.back())):
            self.assertRaises(BackError, act)
            self.assertEqual(picture(machine), held)


if __name__ == "__main__":
    unittest.main()
