"""[53], with [9] and [13]: falls, may_tell and may_hold."""

import unittest

from landedback.errors import TooMany
from landedback.places import all_places
from landedback.programs import Program
from landedback.tables import Table
from landedback.told import falls, may_hold, may_tell
from tests.follow import Follow
from tests.reference import ARMED, CHAIN, DEEP, PLAN, STALE, chance_program, programs
from tests.shapes import rich_program
from tests.steadies import steady_program
from tests.test_tables import CELLS, FUNCTIONS, NAMES, renamed_program


def main(body, result="p", **others):
    return Program({"main": ([], body, result), **others})


# Which of the two tables is larger hangs on what names can hold.
MANY_NOTHING = main([("loop", [("either", [[("get", name)] for name in "abc"] + [[("clear", name)] for name in "abc"])])], "a")
MANY_THINGS = main([("get", "p"), ("take", "q", "p"), ("free", "p"), ("free", "q"), ("use", "q"), ("get", "p")])


class Falls(unittest.TestCase):

    def test_by_jumps(self):
        self.assertEqual(falls(Program(PLAN)), [])
        self.assertEqual(falls(main([("jump", "m")])), [("main", (0,))])
        self.assertEqual(falls(main([("either", [[("jump", "m")], [("jump", "n")]])])),
                         [("main", (0, 0, 0)), ("main", (0, 1, 0))])
        self.assertEqual(falls(main([("jump", "m"), ("jump", "m")])), [("main", (0,))])
        self.assertEqual(falls(main([("mark", "m", [], []), ("either", [[("jump", "m")], []])])), [])

    def test_by_ended_marks(self):
        program = main([("call", "p", "f", ()), ("rest",), ("jump", "m")], f=([], [("mark", "m", [], [])], "a"))
        self.assertEqual(falls(program), [("main", (2,))])

    def test_by_break_ins(self):
        program = main([("arm", "m"), ("get", "p"), ("free", "p"), ("rest",)])
        self.assertEqual(falls(program), [("main", (1,)), ("main", (2,)), ("main", (3,))])
        self.assertEqual(falls(program.with_shut([("main", (1,)), ("main", (3,))])), [("main", (2,))])
        self.assertEqual(falls(main([("arm", "m")])), [("main", (1,))])
        program = main([("arm", "m"), ("call", "p", "f", ())], f=([], [], "a"))
        self.assertEqual(falls(program), [("f", (0,)), ("main", (1,)), ("main", (2,))])

    def test_falls_behind_other_faults(self):
        program = main([("get", "p"), ("clear", "p"), ("free", "p"), ("jump", "m")])
        self.assertEqual(falls(program), [("main", (3,))])


class Tells(unittest.TestCase):

    def test_each_word(self):
        program = main([("call", "p", "f", ()), ("mark", "n", [], []), ("call", "p", "f", ()), ("rest",)],
                       f=([], [("rest",), ("mark", "m", [], []), ("move", "m", "m")], "a"))
        for place, m, n in ((("main", (0,)), ["nothing"], ["nothing"]), (("main", (1,)), ["ended"], ["nothing"]),
                            (("main", (2,)), ["ended"], ["mine"]), (("main", (4,)), ["ended"], ["mine"]),
                            (("f", (0,)), ["ended", "nothing"], ["nothing", "outer"]),
                            (("f", (2,)), ["mine"], ["nothing", "outer"]), (("f", (3,)), ["mine"], ["nothing", "outer"])):
            self.assertEqual([may_tell(program, place, "m"), may_tell(program, place, "n")], [m, n], place)

    def test_all_four(self):
        body = [("mark", "m", [], []), ("either", [[], [("call", "a", "f", ())]]), ("rest",)]
        program = main([("either", [[("mark", "n", [], [])], []]), ("call", "p", "f", ())],
                       f=([], [("either", [[("move", "n", "m")], []])] + body, "a"))
        self.assertEqual(may_tell(program, ("f", (3,)), "n"), ["ended", "mine", "nothing", "outer"])
        self.assertEqual(may_tell(program, ("f", (0,)), "n"), ["nothing", "outer"])
        self.assertEqual(may_tell(program, ("f", (0,)), "m"), ["nothing", "outer"])
        self.assertEqual(may_tell(program, ("f", (3,)), "m"), ["ended", "mine"])

    def test_a_mark_of_an_elder_call_of_the_same_function(self):
        program = main([("call", "p", "f", ())],
                       f=([], [("rest",), ("mark", "m", [], []), ("either", [[("call", "a", "f", ())], []])], "a"))
        self.assertEqual(may_tell(program, ("f", (0,)), "m"), ["nothing", "outer"])
        self.assertEqual(may_tell(program, ("f", (2,)), "m"), ["mine"])
        self.assertEqual(may_tell(program, ("f", (3,)), "m"), ["ended", "mine"])

    def test_where_no_run_comes(self):
        program = main([("jump", "m"), ("rest",)], f=([], [("mark", "m", [], [])], "a"))
        for place in (("main", (1,)), ("main", (2,)), ("f", (0,)), ("f", (1,))):
            self.assertEqual(may_tell(program, place, "m"), [])

    def test_behind_faults_too(self):
        program = main([("get", "p"), ("clear", "p"), ("mark", "m", [], []), ("rest",)])
        self.assertEqual(may_tell(program, ("main", (4,)), "m"), ["mine"])


class Holds(unittest.TestCase):

    def test_each_word(self):
        program = main([("get", "p"), ("take", "q", "p"), ("free", "p"), ("clear", "p"), ("rest",)])
        for at, p, q in ((0, ["nothing"], ["nothing"]), (1, ["live"], ["nothing"]), (2, ["live"], ["live"]),
                         (3, ["gone"], ["gone"]), (4, ["nothing"], ["gone"]), (5, ["nothing"], ["gone"])):
            place = ("main", (at,))
            self.assertEqual([may_hold(program, place, "p"), may_hold(program, place, "q")], [p, q])

    def test_all_three(self):
        program = main([("loop", [("either", [[("get", "p")], [("free", "p")], [("clear", "p")]])])])
        self.assertEqual(may_hold(program, ("main", (1,)), "p"), ["gone", "live", "nothing"])

    def test_in_called_functions_and_at_ends(self):
        program = main([("call", "q", "f", ("q",)), ("get", "p"), ("call", "q", "f", ("p",)), ("free", "q")],
                       f=(["a"], [("take", "b", "a")], "b"))
        for place, name, words in ((("f", (0,)), "a", ["live", "nothing"]), (("f", (0,)), "b", ["nothing"]),
                                   (("f", (1,)), "b", ["live", "nothing"]), (("main", (3,)), "q", ["live"]),
                                   (("main", (2,)), "q", ["nothing"]), (("main", (4,)), "p", ["gone"])):
            self.assertEqual(may_hold(program, place, name), words)

    def test_what_comes_back(self):
        program = Program(PLAN)
        self.assertEqual(may_hold(program, ("main", (1, 1, 0)), "p"), ["live", "nothing"])
        self.assertEqual(may_hold(program.with_kept([("main", "p")]), ("main", (1, 1, 0)), "p"), ["live"])
        self.assertEqual(may_hold(program, ("main", (6,)), "p"), ["nothing"])

    def test_not_behind_a_fault_of_the_thing(self):
        program = main([("get", "p"), ("free", "p"), ("use", "p"), ("rest",)])
        self.assertEqual(may_hold(program, ("main", (2,)), "p"), ["gone"])
        self.assertEqual(may_hold(program, ("main", (3,)), "p"), [])
        program = main([("get", "p"), ("get", "q"), ("clear", "p"), ("rest",)])
        self.assertEqual([may_hold(program, ("main", (4,)), name) for name in "pq"], [["nothing"], ["live"]])

    def test_where_no_run_comes(self):
        program = main([("jump", "m"), ("rest",)], f=([], [], "a"))
        self.assertEqual([may_hold(program, ("main", (2,)), "p"), may_hold(program, ("f", (0,)), "a")], [[], []])


class AgainstRuns(unittest.TestCase):

    def test_by_hand_and_by_chance(self):
        whole = 0
        every = programs() + [Program(functions) for functions in (PLAN, DEEP, ARMED, STALE, CHAIN)]
        every += [rich_program(seed) for seed in range(30)] + [steady_program(seed) for seed in range(12)]
        for program in every + [chance_program(seed) for seed in range(20)]:
            runs, others = Follow(program, 25, most=500), Follow(program, 25, nothing=True, most=500)
            done = runs.whole and others.whole
            whole += done
            expected = sorted({fault[1:] for fault in runs.faults if fault[0] == "fall"})
            self.compare(falls(program, most=4000), expected, done)
            for place in all_places(program)[::5]:
                for at, cell in enumerate(program.cells()):
                    found = {row[3][2][at][0] for row in runs.rows if (row[0], row[2]) == place}
                    self.compare(may_tell(program, place, cell, most=4000), sorted(found), done)
                for name in program.names(place[0]):
                    rows = [row for row in list(runs.rows) + list(others.rows) if (row[0], row[2]) == place]
                    found = {row[3][0] for row in rows if name in row[3][1]}
                    self.compare(may_hold(program, place, name, most=4000), sorted(found), done)
        self.assertGreater(whole, 40)

    def compare(self, told, expected, done):
        if done:
            self.assertEqual(told, expected)
        else:
            self.assertEqual(told, sorted(set(told) | set(expected)))


class Many(unittest.TestCase):

    def refused(self, act, most):
        with self.assertRaises(TooMany) as held:
            act(most)
        self.assertEqual(held.exception.limit, most)

    def test_the_tables_that_are_looked_at(self):
        sizes = []
        for program in (MANY_NOTHING, MANY_THINGS, Program(PLAN), Program(DEEP)):
            thing, nothing = len(Table(program)), len(Table(program, nothing=True))
            sizes.append(thing - nothing)
            one = [lambda most: falls(program, most=most)]
            one += [lambda most: may_tell(program, ("main", (0,)), cell, most=most) for cell in program.cells()]
            for act in one:
                act(thing)
                self.refused(act, thing - 1)
            name = program.names("main")[0]
            self.refused(lambda most: may_hold(program, ("main", (0,)), name, most=most), max(thing, nothing) - 1)
            may_hold(program, ("main", (0,)), name, most=max(thing, nothing))
        self.assertLess(min(sizes), 0)
        self.assertGreater(max(sizes), 0)

    def test_a_thousand_is_what_there_may_be_at_first(self):
        for act in (falls, lambda program: may_tell(program, ("main", (0,)), "m"),
                    lambda program: may_hold(program, ("main", (0,)), "p")):
            act(main([("move", "m", "m")] * 999))
            with self.assertRaises(TooMany) as held:
                act(main([("move", "m", "m")] * 1000))
            self.assertEqual(held.exception.limit, 1000)

    def test_keywords(self):
        program = Program(PLAN)
        for act in (lambda: falls(program, 9), lambda: may_tell(program, ("main", (0,)), "m", 9),
                    lambda: may_hold(program, ("main", (0,)), "p", 9)):
            self.assertRaises(TypeError, act)


class Renamed(unittest.TestCase):

    def test_names(self):
        """[13]."""
        for seed in range(20):
            program = rich_program(seed)
            other = renamed_program(program)
            self.assertEqual(falls(other, most=4000), [(FUNCTIONS[function], address)
                                                       for function, address in falls(program, most=4000)])
            for function, address in all_places(program)[::4]:
                place = (FUNCTIONS[function], address)
                for cell in program.cells():
                    self.assertEqual(may_tell(other, place, CELLS[cell], most=4000),
                                     may_tell(program, (function, address), cell, most=4000))
                for name in program.names(function):
                    self.assertEqual(may_hold(other, place, NAMES[name], most=4000),
                                     may_hold(program, (function, address), name, most=4000))


class Lists(unittest.TestCase):

    def test_new_lists(self):
        program = Program(STALE)
        for act in (lambda: falls(program), lambda: may_tell(program, ("main", (0,)), "m"),
                    lambda: may_hold(program, ("main", (0,)), "p")):
            told = act()
            self.assertTrue(told)
            act().clear()
            self.assertEqual(act(), told)


if __name__ == "__main__":
    unittest.main()
