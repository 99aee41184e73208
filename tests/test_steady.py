"""[61], with [10], [11] and [13]: unsteady, is_steady, must_keep and safe_with."""

import itertools
import unittest

from landedback.errors import BackError, BadKept, Faulty, TooMany, Unsteady
from landedback.faultruns import is_safe
from landedback.plainruns import changed, empty_uses, got_since, shared
from landedback.programs import Program
from landedback.steady import is_steady, must_keep, safe_with, unsteady
from landedback.tables import Table
from tests.reference import PLAN, programs
from tests.shapes import rich_program
from tests.steadies import steady_program
from tests.test_tables import FUNCTIONS, NAMES, renamed_program
from tests.test_told import MANY_NOTHING, MANY_THINGS

JUMP = ("either", [[("jump", "m")], []])

# Two names that got things since a mark, one that changed though it got nothing, one that did not change.
TWO = {"main": ([], [("get", "p"), ("get", "q"), ("mark", "m", [], []), ("free", "p"), ("get", "p"), ("free", "q"),
                     ("get", "q"), JUMP, ("free", "p"), ("free", "q"), ("clear", "r")], "s")}

# f is called again and again; it has a mark of its own, and jumps to that of main, too.
NESTED = {
    "main": ([], [("get", "p"), ("mark", "m", [], [("free", "p"), ("get", "p")]), ("free", "p"), ("get", "p"),
                  ("call", "q", "f", ("p",)), ("free", "p")], "p"),
    "f": (["a"], [("get", "b"), ("mark", "n", [], []), ("free", "b"), ("get", "b"), ("either", [[("jump", "n")], []]),
                  ("free", "b"), ("clear", "b"), ("use", "a"), JUMP], "a"),
}

SHARED = {"main": ([], [("mark", "m", [], [("free", "p"), ("clear", "p"), ("clear", "q")]), ("get", "p"), ("take", "q", "p"),
                        JUMP, ("free", "p")], "p")}

EMPTY = {"main": ([], [("use", "q"), ("get", "p"), ("free", "p"), ("use", "r")], "p")}


def main(body, result="p", **others):
    return Program({"main": ([], body, result), **others})


def every_name(program):
    return [(function, name) for function in program.functions() for name in program.names(function)]


def every_set(things):
    return [list(some) for many in range(len(things) + 1) for some in itertools.combinations(things, many)]


class Steady(unittest.TestCase):

    def test_steady(self):
        for functions in (PLAN, TWO, NESTED):
            program = Program(functions)
            self.assertIsNone(unsteady(program))
            self.assertIs(is_steady(program), True)

    def test_shared(self):
        program = Program(SHARED)
        self.assertEqual(unsteady(program), ("shared", "main", "p"))
        self.assertIs(is_steady(program), False)
        self.assertEqual(shared(program), [("main", "p"), ("main", "q")])

    def test_empty(self):
        program = Program(EMPTY)
        self.assertEqual(unsteady(program), ("empty", "main", (0,), "q"))
        self.assertIs(is_steady(program), False)
        program = main([("call", "p", "f", ())], f=([], [], "b"))
        self.assertEqual(unsteady(program), ("empty", "f", (0,), "b"))

    def test_shared_goes_ahead_of_empty(self):
        functions = {"main": ([], [("use", "a")] + SHARED["main"][1], "p")}
        self.assertEqual(empty_uses(Program(functions))[0], ("main", (0,), "a"))
        self.assertEqual(unsteady(Program(functions)), ("shared", "main", "p"))

    def test_empty_uses_of_what_is_got_since_a_mark(self):
        """p is used while it holds nothing, but it is one of the names that must be kept anyway."""
        program = main([("mark", "m", [], [("free", "p"), ("clear", "p")]), ("use", "p"), ("get", "p"), JUMP, ("free", "p")])
        self.assertEqual(empty_uses(program), [("main", (1,), "p")])
        self.assertIsNone(unsteady(program))
        self.assertEqual(must_keep(program), [("main", "p")])
        other = main([("mark", "m", [], [("free", "p"), ("clear", "p")]), ("use", "p"), ("use", "q"), ("get", "p"), JUMP,
                      ("free", "p")])
        self.assertEqual(unsteady(other), ("empty", "main", (2,), "q"))

    def test_the_least_that_is_not_got_since_a_mark(self):
        for seed in range(60):
            for program in (rich_program(seed), steady_program(seed)):
                got = got_since(program, most=4000)
                together = [("shared",) + item for item in shared(program, most=4000)]
                empty = [("empty",) + item for item in empty_uses(program, most=4000) if (item[0], item[2]) not in got]
                expected = (together + empty + [None])[0]
                self.assertEqual(unsteady(program, most=4000), expected)
                self.assertIs(is_steady(program, most=4000), expected is None)

    def test_kept_names_do_not_matter(self):
        for functions in (PLAN, TWO, NESTED, SHARED, EMPTY):
            program = Program(functions)
            self.assertEqual(unsteady(program.with_kept(every_name(program))), unsteady(program))


class Must(unittest.TestCase):

    def test_names(self):
        self.assertEqual(must_keep(Program(PLAN)), [("main", "p")])
        self.assertEqual(must_keep(Program(TWO)), [("main", "p"), ("main", "q")])
        self.assertEqual(must_keep(Program(NESTED)), [("f", "b"), ("main", "p")])
        self.assertEqual(must_keep(main([])), [])
        self.assertEqual(must_keep(Program(PLAN, kept=[("main", "p")])), [("main", "p")])

    def test_faulty(self):
        for body, fault in (([("get", "p")], ("lost", "main", (1,))), ([("jump", "m")], ("fall", "main", (0,))),
                            ([("get", "p"), ("free", "p"), ("use", "p")], ("gone", "main", (2,))),
                            ([("get", "p"), ("free", "p"), ("use", "p"), ("jump", "m")], ("fall", "main", (3,)))):
            with self.assertRaises(Faulty) as held:
                must_keep(main(body))
            told = held.exception
            self.assertEqual((told.word, told.function, told.address), fault)
            self.assertEqual(Table(main(body), plain=True).faults()[0], fault)

    def test_unsteady(self):
        for functions, why in ((SHARED, ("shared", "main", "p")), (EMPTY, ("empty", "main", (0,), "q"))):
            program = Program(functions)
            with self.assertRaises(Unsteady) as held:
                must_keep(program)
            self.assertEqual(held.exception.why, why)
            self.assertIsInstance(held.exception, BackError)

    def test_faulty_goes_ahead_of_unsteady(self):
        program = main([("use", "q"), ("get", "p")])
        self.assertEqual(unsteady(program), ("empty", "main", (0,), "q"))
        self.assertRaises(Faulty, lambda: must_keep(program))
        self.assertRaises(Faulty, lambda: safe_with(program, []))

    def test_a_fault_of_other_runs_is_none(self):
        program = Program(PLAN)
        self.assertIs(is_safe(program), False)
        self.assertEqual(must_keep(program), [("main", "p")])

    def test_by_chance(self):
        seen = set()
        for seed in range(80):
            for program in (rich_program(seed), steady_program(seed)):
                faults = Table(program, plain=True, most=4000).faults()
                why = unsteady(program, most=4000)
                try:
                    told = must_keep(program, most=4000)
                except Faulty as error:
                    self.assertEqual((error.word, error.function, error.address), faults[0])
                    seen.add("faulty")
                except Unsteady as error:
                    self.assertEqual([error.why, faults], [why, []])
                    seen.add("unsteady")
                else:
                    self.assertEqual([why, faults, told], [None, [], got_since(program, most=4000)])
                    seen.add(len(told))
        self.assertLessEqual({"faulty", "unsteady", 0, 1, 2}, seen)

    def test_new_lists(self):
        program = Program(TWO)
        must_keep(program).clear()
        self.assertEqual(must_keep(program), [("main", "p"), ("main", "q")])


class SafeWith(unittest.TestCase):

    def test_each_set_of_names(self):
        """[11], and [10]."""
        for functions in (PLAN, TWO, NESTED):
            program = Program(functions)
            must = must_keep(program)
            for names in every_set(every_name(program)):
                told = safe_with(program, names)
                self.assertIs(told, set(must) <= set(names))
                self.assertIs(told, is_safe(program.with_kept(names)))

    def test_each_set_of_names_by_chance(self):
        found = set()
        for seed in range(160):
            program = steady_program(seed)
            try:
                must = must_keep(program, most=4000)
            except (Faulty, Unsteady):
                continue
            names = [(function, name) for function in program.reached() for name in program.names(function)]
            sets = every_set(names)
            if len(sets) > 20:
                sets = [[], must, names] + [[name for name in names if name != one] for one in names]
            for one in sets:
                told = safe_with(program, one, most=4000)
                self.assertIs(told, is_safe(program.with_kept(one), most=4000), (program.functions(), program.shut(), one))
                self.assertIs(told, set(must) <= set(one))
                found.add((told, len(must)))
        self.assertLessEqual({(True, 0), (True, 1), (False, 1), (True, 2), (False, 2)}, found)

    def test_what_changed_and_need_not_be_kept(self):
        program = main([("get", "p"), ("mark", "m", [], []), ("use", "p"), ("take", "q", "p"), ("clear", "q"), ("free", "p"),
                        ("clear", "p"), ("get", "p"), JUMP, ("free", "p")])
        self.assertEqual([must_keep(program), changed(program)], [[("main", "p")], [("main", "p")]])
        program = main([("get", "p"), ("mark", "m", [("free", "p"), ("clear", "p"), JUMP], []), ("clear", "p")])
        self.assertEqual([must_keep(program), changed(program)], [[], [("main", "p")]])
        self.assertIs(safe_with(program, []), True)
        self.assertIs(is_safe(program), True)

    def test_what_is_kept_already_does_not_matter(self):
        program = Program(TWO, kept=[("main", "p"), ("main", "q")])
        self.assertIs(is_safe(program), True)
        self.assertIs(safe_with(program, []), False)
        self.assertIs(safe_with(program, [("main", "p")]), False)
        self.assertIs(safe_with(program, [("main", "q"), ("main", "p"), ("main", "q")]), True)

    def test_bad_kept_goes_ahead_of_all_else(self):
        for functions in (PLAN, SHARED, EMPTY, {"main": ([], [("get", "p")], "p")}):
            for names, bad in (([("main", "zz")], ("main", "zz")), ([("main", "p"), ("g", "p"), ("h", "p")], ("g", "p"))):
                for most in (1, 1000):
                    with self.assertRaises(BadKept) as held:
                        safe_with(Program(functions), names, most=most)
                    self.assertEqual((held.exception.function, held.exception.name), bad)

    def test_what_must_keep_raises(self):
        self.assertRaises(Unsteady, lambda: safe_with(Program(SHARED), [("main", "p")]))
        self.assertRaises(Faulty, lambda: safe_with(main([("get", "p")]), [("main", "p")]))
        self.assertRaises(TooMany, lambda: safe_with(Program(PLAN), [], most=1))

    def test_names_are_not_changed(self):
        names = [("main", "p")]
        safe_with(Program(PLAN), names)
        self.assertEqual(names, [("main", "p")])


class Many(unittest.TestCase):

    def test_both_tables_are_looked_at(self):
        more = set()
        others = [main([("get", "p")]), Program(SHARED), Program(EMPTY), Program(TWO), Program(NESTED)]
        for program in [MANY_NOTHING, MANY_THINGS, Program(PLAN, kept=[("main", "p")])] + others + programs()[:3]:
            sizes = [len(Table(program.with_kept([]), plain=True, nothing=nothing)) for nothing in (False, True)]
            more.add(sizes[0] > sizes[1])
            for act in (unsteady, is_steady, must_keep, lambda one, *, most: safe_with(one, [], most=most)):
                for most in (max(sizes) - 1, min(sizes) - 1, 1):
                    with self.assertRaises(TooMany) as held:
                        act(program, most=most)
                    self.assertEqual(held.exception.limit, most)
                try:
                    act(program, most=max(sizes))
                except (Faulty, Unsteady):
                    pass
        self.assertEqual(more, {True, False})

    def test_a_thousand_is_what_there_may_be_at_first(self):
        for act in (unsteady, is_steady, must_keep, lambda program: safe_with(program, [])):
            act(main([("rest",)] * 999))
            with self.assertRaises(TooMany) as held:
                act(main([("rest",)] * 1000))
            self.assertEqual(held.exception.limit, 1000)

    def test_only_tables_of_plain_runs(self):
        """The table of all runs has more rows than there may be; it is not looked at."""
        program = main([("get", "p"), ("get", "q"), ("mark", "m", [], [])] +
                       [("free", "p"), ("get", "p"), ("free", "q"), ("get", "q"), JUMP, ("free", "p"), ("free", "q")])
        most = max(len(Table(program, plain=True, nothing=nothing)) for nothing in (False, True))
        self.assertGreater(len(Table(program)), most)
        self.assertEqual(must_keep(program, most=most), [("main", "p"), ("main", "q")])
        self.assertIs(safe_with(program, [("main", "p")], most=most), False)

    def test_keywords(self):
        for act in (unsteady, is_steady, must_keep):
            self.assertRaises(TypeError, lambda: act(Program(PLAN), 1000))
        self.assertRaises(TypeError, lambda: safe_with(Program(PLAN), [], 1000))


class Renamed(unittest.TestCase):

    def test_names(self):
        """[13]."""
        for seed in range(40):
            program = rich_program(seed)
            why = unsteady(program, most=4000)
            if why is not None:
                why = (why[0], FUNCTIONS[why[1]]) + why[2:-1] + (NAMES[why[-1]],)
            self.assertEqual(unsteady(renamed_program(program), most=4000), why)


if __name__ == "__main__":
    unittest.main()
