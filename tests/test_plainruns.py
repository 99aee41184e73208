"""[60], with [9] and [13]: got_since, changed, shared and empty_uses."""

import unittest

from landedback.errors import TooMany
from landedback.plainruns import changed, empty_uses, got_since, shared
from landedback.programs import Program
from landedback.tables import Table
from tests.follow import Follow
from tests.reference import CHAIN, DEEP, PLAN, Reference, chance_program, programs
from tests.shapes import rich_program
from tests.steadies import steady_program
from tests.test_tables import FUNCTIONS, NAMES, renamed_program
from tests.test_told import MANY_NOTHING, MANY_THINGS

ALL = (got_since, changed, shared, empty_uses)


def main(body, result="p", **others):
    return Program({"main": ([], body, result), **others})


def reads(one):
    """The names that a statement reads."""
    if one[0] == "call":
        return list(one[3])
    return {"take": one[2:], "use": one[1:], "free": one[1:]}.get(one[0], [])


def shown(program, depth, most):
    """What plain runs show, by a plain way to do them: the four sets, and whether no run was left to go on."""
    bare = program.with_kept([])
    runs, others = [Follow(bare, depth, plain=True, nothing=nothing, most=most) for nothing in (False, True)]
    got, alone, other = set(), set(), set()
    for function, names, saved, h, outside in runs.landings:
        if h in ("live", "gone"):
            other |= {(function, name) for name in set(names) ^ set(saved)}
        if h == "live":
            found = {(function, name) for name in set(names) - set(saved)}
            got |= found
            alone |= found if len(names) == 1 and not outside else set()
    empty, reference = set(), Reference(program)
    for row in list(runs.rows) + list(others.rows):
        one = reference.statement(row[0], row[2])
        names = [] if one is None and row[0] == "main" else [reference.functions[row[0]][2]] if one is None else reads(one)
        if row[3][0] in ("gone", "nothing"):
            empty |= {(row[0], row[2], name) for name in names if name in row[3][1]}
    return sorted(got), sorted(other), sorted(got - alone), sorted(empty), runs.whole and others.whole


class Got(unittest.TestCase):

    def test_by_a_jump(self):
        program = Program(PLAN)
        self.assertEqual([got_since(program), changed(program), shared(program)], [[("main", "p")], [("main", "p")], []])
        program = main([("get", "p"), ("mark", "m", [], []), ("either", [[("jump", "m")], []]), ("free", "p")])
        self.assertEqual([got_since(program), changed(program), shared(program)], [[], [], []])

    def test_kept_names_count_as_loose(self):
        for kept in ([], [("main", "p")]):
            program = Program(PLAN, kept=kept)
            self.assertEqual([got_since(program), changed(program)], [[("main", "p")], [("main", "p")]])

    def test_by_a_break_in(self):
        program = main([("mark", "m", [], [("free", "p"), ("clear", "p")]), ("get", "p"), ("arm", "m"), ("rest",), ("free", "p")])
        self.assertEqual(got_since(program), [("main", "p")])
        shut = program.with_shut([("main", (3,))])
        self.assertEqual([got_since(shut), changed(shut)], [[], []])

    def test_within_a_get_nobody_holds_it(self):
        program = main([("mark", "m", [], []), ("arm", "m"), ("get", "p"), ("rest",), ("free", "p")])
        self.assertEqual(got_since(program.with_shut([("main", (at,)) for at in (3, 4)])), [])
        self.assertEqual(got_since(program), [("main", "p")])

    def test_by_a_landing_that_a_called_function_does(self):
        program = main([("get", "q"), ("mark", "m", [], [("free", "p"), ("clear", "p")]), ("get", "p"),
                        ("call", "r", "f", ("q",)), ("free", "p"), ("free", "q")],
                       f=(["a"], [("get", "b"), ("free", "b"), ("call", "b", "g", ())], "b"),
                       g=([], [("either", [[("jump", "m")], []])], "x"))
        self.assertEqual([got_since(program), shared(program)], [[("main", "p")], []])
        self.assertEqual(changed(program), [("main", "p")])

    def test_a_landing_in_a_called_function(self):
        program = main([("call", "p", "f", ())],
                       f=([], [("mark", "n", [], [("free", "b")]), ("get", "b"), ("either", [[("jump", "n")], []]),
                               ("free", "b"), ("clear", "b")], "b"))
        self.assertEqual([got_since(program), changed(program)], [[("f", "b")], [("f", "b")]])

    def test_gone_things_are_not_got(self):
        program = main([("mark", "m", [], []), ("get", "p"), ("free", "p"), ("either", [[("jump", "m")], []])])
        self.assertEqual([got_since(program), changed(program)], [[], [("main", "p")]])

    def test_not_behind_a_fault_of_the_thing(self):
        program = main([("mark", "m", [], []), ("get", "p"), ("take", "q", "p"), ("free", "p"), ("free", "p"),
                        ("jump", "m")])
        self.assertEqual([got_since(program), changed(program)], [[], []])
        program = main([("mark", "m", [], []), ("get", "p"), ("free", "p"), ("use", "p"), ("get", "q"), ("jump", "m")])
        self.assertEqual([got_since(program), changed(program)], [[("main", "q")], [("main", "q")]])

    def test_a_thing_of_the_saved_one_and_another_name(self):
        program = main([("get", "p"), ("mark", "m", [], []), ("take", "q", "p"), ("either", [[("jump", "m")], []]), ("free", "p")])
        self.assertEqual([got_since(program), changed(program), shared(program)],
                         [[("main", "q")], [("main", "q")], [("main", "q")]])

    def test_functions_that_call_themselves(self):
        self.assertEqual(got_since(Program(DEEP)), [])
        program = main([("call", "p", "f", ("p",))],
                       f=(["a"], [("mark", "n", [], []), ("take", "b", "a"), ("get", "c"), ("either", [[("jump", "n")], []]),
                                  ("call", "a", "f", ("c",)), ("free", "c"), ("clear", "c")], "c"))
        self.assertEqual(got_since(program), [("f", "b"), ("f", "c")])
        self.assertEqual(shared(program), [("f", "b")])


class Changed(unittest.TestCase):

    def test_though_nothing_was_got(self):
        jump = ("either", [[("jump", "m")], []])
        program = main([("get", "p"), ("mark", "m", [], []), ("free", "p"), ("clear", "p"), jump])
        self.assertEqual([got_since(program), changed(program)], [[], [("main", "p")]])
        program = main([("get", "p"), ("take", "q", "p"), ("mark", "m", [], []), ("clear", "p"), jump, ("free", "q")])
        self.assertEqual([got_since(program), changed(program)], [[], [("main", "p")]])
        program = main([("mark", "m", [], []), ("clear", "p"), jump])
        self.assertEqual([got_since(program), changed(program)], [[], []])

    def test_what_only_calls_hold_that_are_cut_off(self):
        """It is in no name of the call of the mark, and was not saved."""
        program = main([("get", "p"), ("mark", "m", [], []), ("call", "q", "f", ("p",)), ("free", "p")],
                       f=(["a"], [("get", "b"), ("call", "c", "g", ("b", "a"))], "b"), g=(["d", "e"], [("jump", "m")], "d"))
        self.assertEqual([got_since(program), changed(program)], [[], []])

    def test_behind_a_landing_that_loses_another_thing(self):
        """The thing of b is lost as f is cut off; that of p is looked at in the same step."""
        program = main([("mark", "m", [], [("free", "p"), ("clear", "p")]), ("get", "p"), ("call", "q", "f", ())],
                       f=([], [("get", "b"), ("jump", "m")], "b"))
        self.assertEqual(Table(program, plain=True).faults(), [("lost", "main", (0,))])
        self.assertEqual([got_since(program), changed(program)], [[("main", "p")], [("main", "p")]])

    def test_a_saved_thing_that_another_call_holds(self):
        """q holds the thing of p as main waits; only f's own name a is other than at f's mark."""
        program = main([("get", "p"), ("call", "q", "f", ("p",)), ("free", "p")],
                       f=(["a"], [("mark", "n", [], []), ("clear", "a"), ("either", [[("jump", "n")], []])], "a"))
        self.assertEqual([got_since(program), changed(program)], [[], [("f", "a")]])


class Shared(unittest.TestCase):

    def test_in_the_same_call(self):
        for further, expected in (([("take", "q", "p")], [("main", "p"), ("main", "q")]), ([("rest",)], [])):
            program = main([("mark", "m", [], [])] + [("get", "p")] + further + [("either", [[("jump", "m")], []])])
            self.assertEqual(shared(program), expected)

    def test_in_one_that_waits(self):
        program = main([("get", "p"), ("call", "q", "f", ("p",)), ("free", "p")],
                       f=(["a"], [("mark", "n", [], []), ("take", "b", "a"), ("clear", "a"), ("either", [[("jump", "n")], []])],
                          "a"))
        self.assertEqual([got_since(program), shared(program)], [[("f", "b")], [("f", "b")]])

    def test_what_calls_that_are_cut_off_hold_does_not_count(self):
        program = main([("mark", "m", [], [("free", "p"), ("clear", "p")]), ("get", "p"), ("call", "q", "f", ("p",)), ("free", "p")],
                       f=(["a"], [("either", [[("jump", "m")], []])], "b"))
        self.assertEqual([got_since(program), shared(program)], [[("main", "p")], []])

    def test_once_alone_is_enough(self):
        program = main([("mark", "m", [], [("free", "p"), ("clear", "p"), ("clear", "q")]), ("get", "p"),
                        ("either", [[("take", "q", "p")], []]), ("either", [[("jump", "m")], []])])
        self.assertEqual([got_since(program), shared(program)], [[("main", "p"), ("main", "q")], [("main", "q")]])


class Empty(unittest.TestCase):

    def test_statements(self):
        for statement, names in ((("take", "q", "p"), ["p"]), (("use", "p"), ["p"]), (("free", "q"), ["q"]), (("get", "p"), []),
                                 (("clear", "p"), []), (("call", "q", "f", ("p", "r")), ["p", "r"]), (("rest",), []),
                                 (("either", [[("rest",)]]), []), (("loop", []), []), (("mark", "m", [], []), [])):
            program = main([statement], f=(["a", "b"], [("get", "c"), ("free", "c"), ("get", "c")], "c"))
            self.assertEqual(empty_uses(program), [("main", (0,), name) for name in names])

    def test_nothing_and_gone(self):
        program = main([("get", "p"), ("use", "p"), ("free", "p"), ("take", "q", "p"), ("clear", "p"), ("use", "p"), ("use", "q")])
        self.assertEqual(empty_uses(program), [("main", (3,), "p"), ("main", (5,), "p"), ("main", (6,), "q")])
        program = main([("get", "p"), ("free", "p"), ("use", "p"), ("use", "p")])
        self.assertEqual(empty_uses(program), [("main", (2,), "p")])

    def test_results_of_called_functions(self):
        for body, expected in (([], [("f", (0,), "b")]), ([("get", "b")], []), ([("get", "b"), ("free", "b")], [("f", (2,), "b")])):
            self.assertEqual(empty_uses(main([("call", "p", "f", ())], f=([], body, "b"))), expected)
        self.assertEqual(empty_uses(main([])), [])
        self.assertEqual(empty_uses(main([("get", "p"), ("free", "p")])), [])
        self.assertEqual(empty_uses(main([], f=([], [("use", "b")], "b"))), [])

    def test_inner_places(self):
        program = main([("loop", [("either", [[("use", "p")], [("get", "p"), ("free", "p"), ("clear", "p")]])])])
        self.assertEqual(empty_uses(program), [("main", (0, 0, 0, 0, 0), "p")])

    def test_only_plain_runs(self):
        """p is empty behind the mark's landing only if it comes back."""
        program = main([("mark", "m", [], [("use", "p")]), ("get", "p"), ("either", [[("jump", "m")], []]), ("free", "p")])
        self.assertEqual(empty_uses(program), [])

    def test_parameters(self):
        program = main([("get", "p"), ("call", "q", "f", ("p", "r")), ("free", "p")],
                       f=(["a", "b"], [("use", "a"), ("use", "b")], "a"))
        self.assertEqual(empty_uses(program), [("f", (1,), "b"), ("main", (1,), "r")])


class AgainstRuns(unittest.TestCase):

    def test_by_hand_and_by_chance(self):
        whole, seen = 0, set()
        every = programs() + [rich_program(seed) for seed in range(60)] + [steady_program(seed) for seed in range(60)]
        for program in every + [chance_program(seed) for seed in range(30)]:
            *expected, done = shown(program, 25, 600)
            whole += done
            for act, found, number in zip(ALL, expected, range(4)):
                told = act(program, most=4000)
                if done:
                    self.assertEqual(told, found, (act, program.functions(), program.shut()))
                elif act is not shared:
                    self.assertEqual(told, sorted(set(told) | set(found)))
                seen.add((number, bool(told)))
            self.assertLessEqual(set(shared(program, most=4000)), set(got_since(program, most=4000)))
            self.assertLessEqual(set(got_since(program, most=4000)), set(changed(program, most=4000)))
        self.assertEqual(len(seen), 8)
        self.assertGreater(whole, 100)


class Many(unittest.TestCase):

    def refused(self, act, most):
        with self.assertRaises(TooMany) as held:
            act(most)
        self.assertEqual(held.exception.limit, most)

    def test_the_tables_that_are_looked_at(self):
        more = set()
        for program in (MANY_NOTHING, MANY_THINGS, Program(PLAN), Program(CHAIN), Program(PLAN, kept=[("main", "p")])):
            bare = program.with_kept([])
            thing, nothing = [len(Table(bare, plain=True, nothing=nothing)) for nothing in (False, True)]
            more.add(thing > nothing)
            for act in (got_since, changed, shared):
                act(program, most=thing)
                self.refused(lambda most: act(program, most=most), thing - 1)
            empty_uses(program, most=max(thing, nothing))
            self.refused(lambda most: empty_uses(program, most=most), max(thing, nothing) - 1)
        self.assertEqual(more, {True, False})

    def test_the_table_is_of_all_names_loose(self):
        """With p kept there are fewer rows, for less is saved."""
        program = main([("get", "p"), ("mark", "m", [], []), ("free", "p"), ("clear", "p"), ("mark", "n", [], []),
                        ("loop", [("either", [[("move", "m", "n")], [("rest",)]])])], "p").with_kept([("main", "p")])
        kept, bare = len(Table(program, plain=True)), len(Table(program.with_kept([]), plain=True))
        self.assertLessEqual(kept, bare)
        self.refused(lambda most: got_since(program, most=most), bare - 1)

    def test_a_thousand_is_what_there_may_be_at_first(self):
        for act in ALL:
            self.assertEqual(act(main([("rest",)] * 999)), [])
            self.refused(lambda most: act(main([("rest",)] * most)), 1000)

    def test_keywords(self):
        for act in ALL:
            self.assertRaises(TypeError, lambda: act(Program(PLAN), 1000))


class Others(unittest.TestCase):

    def test_names(self):
        """[13]."""
        for seed in range(30):
            program = rich_program(seed)
            other = renamed_program(program)
            for act in ALL:
                told = [(FUNCTIONS[item[0]],) + item[1:-1] + (NAMES[item[-1]],) for item in act(program, most=4000)]
                self.assertEqual(act(other, most=4000), told)

    def test_kept_names_do_not_matter(self):
        """[9]."""
        for seed in range(30):
            program = rich_program(seed)
            for act in ALL:
                self.assertEqual(act(program, most=4000), act(program.with_kept([]), most=4000))

    def test_new_lists(self):
        program = main([("mark", "m", [], []), ("get", "p"), ("take", "q", "p"), ("either", [[("jump", "m")], []]), ("use", "r")])
        for act in ALL:
            told = act(program)
            self.assertTrue(told)
            act(program).clear()
            self.assertEqual(act(program), told)


if __name__ == "__main__":
    unittest.main()
