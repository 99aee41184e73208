"""[41] and [42]: to what the steps of rows, the calls at them and the outcomes of these lead."""

import random
import unittest

from landedback.places import all_places
from landedback.programs import Program
from landedback.rows import begin_entry
from landedback.steps import behind, called, ending, faulty, followers, leaving, lost_behind, passing
from tests.reference import programs
from tests.shapes import Stand, chance_outcome, chance_row, rich_program

NONE = (("nothing",), ("nothing",))
MINE = (("mine", (1,), ("p",)), ("nothing",))


def one(statement, *, shut=(), kept=(), function="main"):
    """A Program in which a function begins with a statement; the cells m and n, the names p and q are in it."""
    rest = [("move", "m", "m"), ("move", "n", "n"), ("take", "p", "p"), ("take", "q", "q")]
    functions = {"main": ([], [], "p"), "f": ([], [], "p")}
    functions[function] = ([], [statement, ("mark", "m", [], [("rest",)])] + rest, "p")
    return Program(functions, shut=shut, kept=kept)


def row(state, *, function="main", address=(0,), h=None, outside=False, told=None):
    """A row with a state, (h, names, told, armed), of an entry with an h."""
    told = told or (("nothing",), ("nothing",))
    passed_on = (h or state[0], (), outside, told, "")
    return (function, passed_on, address, state)


def leads(program, where, plain=False):
    """The addresses and states of the followers, and the faults."""
    return [found[2:] for found in followers(program, where, plain=plain)], faulty(program, where, plain=plain)


class Names(unittest.TestCase):

    def behind(self, statement, h, names, outside=False):
        """The h and names behind a statement, and the words of the faults."""
        function = "f" if outside else "main"
        where = row((h, names, NONE, ""), outside=outside, function=function)
        rows, faults = leads(one(statement, function=function), where)
        for address, state in rows:
            self.assertEqual([address, state[2:]], [(1,), (NONE, "")])
        for fault in faults:
            self.assertEqual(fault[1], (0,))
        return [state[:2] for _, state in rows], [word for word, _ in faults]

    def test_get(self):
        self.assertEqual(self.behind(("get", "p"), "new", ()), ([("live", ("p",)), ("new", ())], []))
        self.assertEqual(self.behind(("get", "p"), "live", ("p", "q")), ([("live", ("q",))], []))
        self.assertEqual(self.behind(("get", "p"), "live", ("q",)), ([("live", ("q",))], []))
        self.assertEqual(self.behind(("get", "p"), "live", ("p",)), ([], ["lost"]))
        self.assertEqual(self.behind(("get", "p"), "live", ("p",), outside=True), ([("live", ())], []))
        self.assertEqual(self.behind(("get", "p"), "gone", ("p",)), ([("gone", ())], []))
        self.assertEqual(self.behind(("get", "p"), "nothing", ("p", "q")), ([("nothing", ("q",))], []))

    def test_take(self):
        self.assertEqual(self.behind(("take", "p", "q"), "new", ()), ([("new", ())], []))
        self.assertEqual(self.behind(("take", "p", "q"), "live", ("q",)), ([("live", ("p", "q"))], []))
        self.assertEqual(self.behind(("take", "p", "q"), "live", ("p",)), ([], ["lost"]))
        self.assertEqual(self.behind(("take", "p", "q"), "live", ("p",), outside=True), ([("live", ())], []))
        self.assertEqual(self.behind(("take", "p", "p"), "live", ("p",)), ([("live", ("p",))], []))
        self.assertEqual(self.behind(("take", "p", "q"), "gone", ("p",)), ([("gone", ())], []))
        self.assertEqual(self.behind(("take", "p", "q"), "nothing", ("q",)), ([("nothing", ("p", "q"))], []))
        self.assertEqual(self.behind(("take", "p", "q"), "nothing", ("p",)), ([("nothing", ())], []))

    def test_clear(self):
        self.assertEqual(self.behind(("clear", "p"), "new", ()), ([("new", ())], []))
        self.assertEqual(self.behind(("clear", "p"), "live", ("p", "q")), ([("live", ("q",))], []))
        self.assertEqual(self.behind(("clear", "p"), "live", ("p",)), ([], ["lost"]))
        self.assertEqual(self.behind(("clear", "q"), "live", ("p",)), ([("live", ("p",))], []))
        self.assertEqual(self.behind(("clear", "p"), "gone", ("p",)), ([("gone", ())], []))
        self.assertEqual(self.behind(("clear", "q"), "nothing", ("p",)), ([("nothing", ("p", "q"))], []))

    def test_use_and_free(self):
        for word, then in (("use", "live"), ("free", "gone")):
            self.assertEqual(self.behind((word, "p"), "new", ()), ([("new", ())], []))
            self.assertEqual(self.behind((word, "p"), "live", ("p",)), ([(then, ("p",))], []))
            self.assertEqual(self.behind((word, "p"), "live", ("q",)), ([("live", ("q",))], []))
            self.assertEqual(self.behind((word, "p"), "gone", ("p",)), ([], ["gone"]))
            self.assertEqual(self.behind((word, "p"), "gone", ("q",)), ([("gone", ("q",))], []))
            self.assertEqual(self.behind((word, "p"), "nothing", ("p",)), ([("nothing", ("p",))], []))
            self.assertEqual(self.behind((word, "p"), "nothing", ()), ([("nothing", ())], []))

    def test_truths_are_none_of_numbers(self):
        where = row(("live", ("p",), NONE, ""))
        self.assertIs(followers(one(("rest",)), where)[0][1][2], False)


class Control(unittest.TestCase):

    def test_either_and_loop(self):
        state = ("live", ("p",), NONE, "")
        either = one(("either", [[("use", "p")], [], [("rest",)]]))
        self.assertEqual(leads(either, row(state)), ([((0, 0, 0), state), ((0, 2, 0), state), ((1,), state)], []))
        self.assertEqual(leads(one(("either", [[], []])), row(state)), ([((1,), state)], []))
        self.assertEqual(leads(one(("loop", [("rest",)])), row(state)), ([((0, 0, 0), state), ((1,), state)], []))
        self.assertEqual(leads(one(("loop", [])), row(state)), ([((0,), state), ((1,), state)], []))

    def test_a_mark_saves_what_loose_names_have(self):
        for kept, saved in (((), ("p", "q")), ([("main", "p")], ("q",)), ([("main", "p"), ("main", "q")], ())):
            program = one(("mark", "n", [("rest",)], []), kept=kept)
            for h in ("live", "gone", "nothing"):
                told = (("nothing",), ("mine", (0,), saved))
                self.assertEqual(leads(program, row((h, ("p", "q"), NONE, "m"), h=h)),
                                 ([((0, 0, 0), (h, ("p", "q"), told, "m"))], [("fall", (0,))]))
        told = (("nothing",), ("mine", (0,), ()))
        self.assertEqual(leads(program, row(("new", (), NONE, ""))), ([((0, 0, 0), ("new", (), told, ""))], []))

    def test_move(self):
        for item in (("nothing",), ("ended",), ("outer", 0), ("mine", (1,), ("q",))):
            where = row(("live", ("p",), (item, ("ended",)), ""), function="f", told=(("outer", 0), ("outer", 0)))
            rows, _ = leads(one(("move", "n", "m"), function="f"), where)
            self.assertEqual(rows, [((1,), ("live", ("p",), (item, item), ""))])
        where = row(("live", ("p",), MINE, ""))
        self.assertEqual(leads(one(("move", "m", "n")), where)[0], [((1,), ("live", ("p",), NONE, ""))])
        self.assertEqual(leads(one(("move", "m", "m")), where)[0], [((1,), ("live", ("p",), MINE, ""))])

    def test_arm_and_rest(self):
        for armed in ("", "m", "n"):
            program = one(("arm", "n"), shut=[("main", (0,))])
            self.assertEqual(leads(program, row(("new", (), NONE, armed))), ([((1,), ("new", (), NONE, "n"))], []))
            program = one(("rest",), shut=[("main", (0,))])
            self.assertEqual(leads(program, row(("new", (), NONE, armed))), ([((1,), ("new", (), NONE, ""))], []))

    def test_the_call_step_is_left_out(self):
        state = ("live", ("p",), MINE, "")
        self.assertEqual(leads(one(("call", "p", "f", ())), row(state)), ([], []))

    def test_ends(self):
        program = Program({"main": ([], [], "p"), "f": ([], [("move", "m", "n")], "p")})
        self.assertEqual(leads(program, row(("live", ("p",), NONE, ""))), ([], [("lost", (0,))]))
        for h in ("new", "gone", "nothing"):
            names = () if h == "new" else ("p",)
            self.assertEqual(leads(program, row((h, names, NONE, ""))), ([], []))
            self.assertIsNone(ending(program, row((h, names, NONE, ""))))
        where = row(("live", ("p",), NONE, ""), function="f", address=(1,))
        self.assertEqual(leads(program, where), ([], []))
        self.assertEqual(ending(program, where), ("end", "live", True, NONE, ""))


class Landings(unittest.TestCase):

    def test_a_jump_to_a_mark_of_the_call(self):
        program = one(("jump", "m"))
        for h in ("live", "gone", "nothing"):
            told = (("mine", (1,), ("q",)), ("ended",))
            where = row((h, ("p",), told, ""), h=h)
            rows = [((1, 1, 0), (h, names, told, "")) for names in ((), ("p",), ("p", "q"), ("q",))]
            if h == "live":
                self.assertEqual(leads(program, where), (rows[1:], [("lost", (1,))]))
            else:
                self.assertEqual(leads(program, where), (rows, []))
            self.assertEqual(leads(program, where, plain=True), (rows[1:2], []))
            self.assertEqual(leaving(program, where), [])

    def test_kept_names_never_come_back(self):
        told = (("mine", (1,), ("q",)), ("ended",))
        where = row(("live", ("p",), told, ""))
        rows, faults = leads(one(("jump", "m"), kept=[("main", "p")]), where)
        self.assertEqual([[state[1] for _, state in rows], faults], [[("p",), ("p", "q")], []])
        where = row(("live", ("p",), (("mine", (1,), ()), ("ended",)), ""))
        rows, faults = leads(one(("jump", "m"), kept=[("main", "q")]), where)
        self.assertEqual([[state[1] for _, state in rows], faults], [[("p",)], [("lost", (1,))]])

    def test_what_callers_hold_is_not_lost(self):
        told = (("mine", (1,), ()), ("ended",))
        where = row(("live", ("p",), told, ""), function="f", outside=True)
        rows, faults = leads(one(("jump", "m"), function="f"), where)
        self.assertEqual([[state[1] for _, state in rows], faults], [[(), ("p",)], []])

    def test_a_jump_at_new(self):
        told = (("mine", (1,), ()), ("ended",))
        self.assertEqual(leads(one(("jump", "m")), row(("new", (), told, "m"), address=(0,))),
                         ([((1, 1, 0), ("new", (), told, ""))], []))

    def test_falls(self):
        for item in (("nothing",), ("ended",)):
            where = row(("live", ("p",), (item, ("mine", (1,), ())), ""))
            self.assertEqual(leads(one(("jump", "m")), where), ([], [("fall", (0,))]))
            self.assertEqual(leaving(one(("jump", "m")), where), [])
            where = row(("new", (), (item, item), "n"))
            for statement in (("get", "p"), ("call", "p", "f", ()), ("either", [[], []])):
                self.assertEqual(leads(one(statement), where)[1], [("fall", (0,))])

    def test_an_empty_landing_leads_behind_the_mark(self):
        program = Program({"main": ([], [("loop", [("mark", "m", [], [])]), ("jump", "m")], "p")})
        told = (("mine", (0, 0, 0), ()),)
        self.assertEqual([found[2] for found in followers(program, row(("gone", (), told, ""), address=(1,)))], [(0,)])

    def test_break_ins(self):
        told = (("mine", (1,), ("p",)), ("nothing",))
        state = ("live", ("p",), told, "m")
        where = row(state)
        self.assertEqual(leads(one(("rest",)), where),
                         ([((1,), ("live", ("p",), told, "")), ((1, 1, 0), ("live", ("p",), told, ""))], []))
        shut = one(("rest",), shut=[("main", (0,))])
        self.assertEqual(leads(shut, where), ([((1,), ("live", ("p",), told, ""))], []))
        self.assertEqual(leads(one(("call", "p", "f", ())), where), ([((1, 1, 0), ("live", ("p",), told, ""))], []))
        other = one(("rest",), shut=[("main", (1,)), ("f", (0,))])
        self.assertEqual(leads(other, where), leads(one(("rest",)), where))

    def test_a_break_in_at_an_end(self):
        program = one(("rest",))
        where = row(("live", ("p",), MINE, "m"), address=(6,))
        self.assertEqual(leads(program, where), ([((1, 1, 0), ("live", ("p",), MINE, ""))], [("lost", (6,))]))
        self.assertEqual(leads(one(("rest",), shut=[("main", (6,))]), where), ([], [("lost", (6,))]))

    def test_within_a_get(self):
        told = (("mine", (1,), ()), ("nothing",))
        rows, faults = leads(one(("get", "p")), row(("new", (), told, "m")))
        self.assertEqual(rows, [((1,), ("live", ("p",), told, "m")), ((1,), ("new", (), told, "m")),
                                ((1, 1, 0), ("new", (), told, ""))])
        self.assertEqual(faults, [("lost", (1,))])
        self.assertEqual(leads(one(("get", "p"), shut=[("main", (0,))]), row(("new", (), told, "m")))[1], [])
        self.assertEqual(leads(one(("rest",)), row(("new", (), told, "m")))[1], [])

    def test_within_a_get_of_another_thing(self):
        rows, faults = leads(one(("get", "p")), row(("live", ("p",), MINE, "m")))
        self.assertEqual(rows, [((1, 1, 0), ("live", ("p",), MINE, ""))])
        self.assertEqual(faults, [("lost", (0,))])

    def test_a_jump_that_is_broken_in(self):
        told = (("mine", (1,), ()), ("ended",))
        rows, faults = leads(one(("jump", "m")), row(("gone", (), told, "n")))
        self.assertEqual([[found[0] for found in rows], faults], [[(1, 1, 0)], [("fall", (0,))]])


class Leaving(unittest.TestCase):

    def where(self, state):
        return row(state, function="f", told=(("outer", 0), ("outer", 1)), h="new", outside=False)

    def test_jumps(self):
        program = one(("jump", "n"), function="f")
        where = self.where(("live", ("p",), (("mine", (1,), ("p",)), ("outer", 0)), ""))
        self.assertEqual(leaving(program, where), [("jump", 0, "live", (("ended",), ("outer", 0)))])
        self.assertEqual(leads(program, where), ([], []))
        self.assertIsNone(ending(program, where))

    def test_break_ins(self):
        told = (("outer", 1), ("mine", (1,), ()))
        program = one(("call", "p", "f", ()), function="f")
        where = self.where(("gone", (), told, "m"))
        self.assertEqual(leaving(program, where), [("jump", 1, "gone", (("outer", 1), ("ended",)))])
        self.assertEqual(leaving(program.with_shut([("f", (0,))]), where), [])

    def test_within_a_get(self):
        told = (("outer", 1), ("ended",))
        program = one(("get", "p"), function="f")
        self.assertEqual(leaving(program, self.where(("new", (), told, "m"))),
                         [("jump", 1, "live", told), ("jump", 1, "new", told)])
        self.assertEqual(leads(program, self.where(("new", (), told, "m")))[1], [])
        self.assertEqual(leaving(program, self.where(("live", ("q",), told, "m"))), [("jump", 1, "live", told)])
        self.assertEqual(leaving(program, self.where(("gone", ("q",), told, "m"))), [("jump", 1, "gone", told)])

    def test_at_an_end(self):
        program = one(("rest",), function="f")
        told = (("outer", 0), ("mine", (1,), ()))
        where = row(("live", ("q",), told, "m"), function="f", address=(6,), told=(("outer", 0), ("nothing",)))
        self.assertEqual(leaving(program, where), [("jump", 0, "live", (("outer", 0), ("ended",)))])
        self.assertEqual(ending(program, where), ("end", "live", False, (("outer", 0), ("ended",)), "m"))
        self.assertIs(ending(program, where)[2], False)

    def test_ends_of_each_h(self):
        program = one(("rest",), function="f")
        for h, names, holds in (("new", (), False), ("live", ("p",), True), ("live", ("q",), False), ("gone", (), False),
                                ("gone", ("p", "q"), True), ("nothing", ("p",), True), ("nothing", ("q",), False)):
            where = row((h, names, NONE, ""), function="f", address=(6,))
            self.assertEqual(ending(program, where), ("end", h, holds, NONE, ""))
            self.assertIsNone(ending(program, row((h, names, NONE, ""), function="f", address=(5,))))

    def test_main_leaves_nothing(self):
        self.assertEqual(leaving(one(("jump", "m")), row(("live", ("p",), MINE, "m"))), [])


CALLS = {
    "main": ([], [("mark", "m", [], [("rest",)]), ("call", "p", "f", ("q", "p")), ("take", "r", "r")], "p"),
    "f": (["y", "x"], [("mark", "n", [], []), ("call", "z", "f", ("x", "x")), ("move", "o", "n")], "z"),
}


class Called(unittest.TestCase):

    def entry(self, function, address, state, **others):
        pair = called(Program(CALLS), row(state, function=function, address=address, **others))
        self.assertEqual(pair[0], "f")
        return pair[1]

    def test_passed(self):
        none = (("nothing",), ("nothing",), ("nothing",))
        for names, passed in (((), ()), (("p",), (1,)), (("q",), (0,)), (("p", "q", "r"), (0, 1)), (("r",), ())):
            self.assertEqual(self.entry("main", (1,), ("gone", names, none, "m"), told=none),
                             ("gone", passed, len(names) > 0, none, "m"))
            self.assertEqual(self.entry("main", (1,), ("nothing", names, none, ""), told=none),
                             ("nothing", passed, False, none, ""))
        self.assertEqual(self.entry("f", (1,), ("live", ("x",), none, ""), told=none)[1], (0, 1))
        self.assertEqual(self.entry("f", (1,), ("live", ("y",), none, ""), told=none)[1], ())
        self.assertEqual(self.entry("main", (1,), ("new", (), none, "o"), told=none), ("new", (), False, none, "o"))

    def test_outside(self):
        none = (("nothing",), ("nothing",), ("nothing",))
        self.assertIs(self.entry("main", (1,), ("live", ("r",), none, ""), told=none)[2], True)
        self.assertIs(self.entry("f", (1,), ("live", (), none, ""), outside=True, told=none)[2], True)
        self.assertIs(self.entry("f", (1,), ("gone", (), none, ""), outside=False, told=none)[2], False)
        self.assertIs(self.entry("f", (1,), ("gone", (), none, ""), outside=True, told=none)[2], True)
        self.assertIs(self.entry("f", (1,), ("nothing", ("x", "y", "z"), none, ""), told=none)[2], False)

    def test_marks_are_passed_on(self):
        told = (("outer", 0), ("outer", 1), ("outer", 2))
        first, second, third = ("mine", (0,), ("x",)), ("mine", (0,), ()), ("mine", (0,), ("x",))
        for items, expected in (
                ((first, second, third), (("outer", 0), ("outer", 1), ("outer", 0))),
                ((first, first, first), (("outer", 0), ("outer", 0), ("outer", 0))),
                ((("outer", 2), first, ("outer", 2)), (("outer", 0), ("outer", 1), ("outer", 0))),
                ((("outer", 1), ("outer", 0), first), (("outer", 0), ("outer", 1), ("outer", 2))),
                ((("ended",), ("outer", 0), ("outer", 0)), (("ended",), ("outer", 1), ("outer", 1))),
                ((("nothing",), ("ended",), second), (("nothing",), ("ended",), ("outer", 2)))):
            self.assertEqual(self.entry("f", (1,), ("live", ("x",), items, ""), told=told)[3], expected)


class Behind(unittest.TestCase):

    program = Program(CALLS)
    none = (("nothing",), ("nothing",), ("nothing",))

    def main(self, state):
        return row(state, address=(1,), told=self.none)

    def f(self, state, outside=False, told=None):
        return row(state, function="f", address=(1,), outside=outside, told=told or self.none)

    def leads(self, where, outcome, plain=False, program=None):
        rows = [found[2:] for found in behind(program or self.program, where, outcome, plain=plain)]
        return rows, lost_behind(program or self.program, where, outcome, plain=plain)

    def test_ends(self):
        none = self.none
        for h, names, then, holds, expected in (
                ("live", ("q",), "live", True, ("p", "q")), ("live", ("q",), "live", False, ("q",)),
                ("live", ("p", "q"), "live", False, ("q",)), ("live", ("p",), "gone", False, ()),
                ("gone", ("p",), "gone", True, ("p",)), ("nothing", ("p",), "nothing", False, ()),
                ("nothing", (), "nothing", True, ("p",)), ("new", (), "new", False, ()), ("new", (), "live", True, ("p",)),
                ("new", (), "gone", True, ("p",)), ("new", (), "gone", False, ())):
            outcome = ("end", then, holds, none, "m")
            self.assertEqual(self.leads(self.main((h, names, none, "")), outcome), ([((2,), (then, expected, none, "m"))], []))
            self.assertIsNone(passing(self.program, self.main((h, names, none, "")), outcome))

    def test_lost_at_an_end(self):
        none = self.none
        for h, names in (("live", ("p",)), ("new", ())):
            self.assertEqual(self.leads(self.main((h, names, none, "")), ("end", "live", False, none, "")),
                             ([], [("lost", (1,))]))
        self.assertEqual(self.leads(self.f(("live", ("z",), none, ""), outside=True), ("end", "live", False, none, "")),
                         ([((2,), ("live", (), none, ""))], []))
        self.assertEqual(self.leads(self.f(("live", ("z",), none, "")), ("end", "live", False, none, "")),
                         ([], [("lost", (1,))]))

    def test_cells_behind_an_end(self):
        mine = ("mine", (0,), ("x",))
        where = self.f(("gone", ("x",), (mine, ("outer", 2), mine), "o"), told=(("nothing",), ("ended",), ("outer", 2)))
        for told, expected in (((("outer", 1), ("outer", 0), ("ended",)), (("outer", 2), mine, ("ended",))),
                               ((("nothing",), ("outer", 1), ("outer", 1)), (("nothing",), ("outer", 2), ("outer", 2)))):
            self.assertEqual(self.leads(where, ("end", "gone", True, told, "")),
                             ([((2,), ("gone", ("x", "z"), expected, ""))], []))

    def test_landings(self):
        mine = ("mine", (0,), ("q",))
        told = (mine, ("ended",), ("nothing",))
        outcome = ("jump", 0, "live", (("ended",), ("outer", 0), ("outer", 0)))
        after = (("ended",), mine, mine)
        where = self.main(("live", ("p",), told, "m"))
        rows = [((0, 1, 0), ("live", names, after, "")) for names in (("p",), ("p", "q"), ("q",))]
        self.assertEqual(self.leads(where, outcome), (rows, [("lost", (0,))]))
        self.assertEqual(self.leads(where, outcome, plain=True), (rows[:1], []))
        self.assertIsNone(passing(self.program, where, outcome))
        kept = self.program.with_kept([("main", "q"), ("main", "r")])
        self.assertEqual(self.leads(self.main(("live", ("p",), (("mine", (0,), ()),) + told[1:], "")), outcome,
                                    program=kept)[1], [("lost", (0,))])
        self.assertEqual(self.leads(where, outcome, program=self.program.with_kept([("main", "p")]))[1], [])

    def test_landings_that_lose(self):
        """What was got in the calls that are cut off is lost; so is what only they held."""
        told = (("mine", (0,), ()), ("ended",), ("nothing",))
        where = self.main(("new", (), told, ""))
        for then, rows, faults in (("new", [((0, 1, 0), ("new", (), told, ""))], []), ("live", [], [("lost", (0,))]),
                                   ("gone", [((0, 1, 0), ("gone", (), told, ""))], [])):
            outcome = ("jump", 0, then, (("outer", 0),) + told[1:])
            for plain in (False, True):
                self.assertEqual(self.leads(where, outcome, plain), (rows, faults))

    def test_what_comes_back_is_held_again(self):
        told = (("mine", (0,), ("q",)), ("ended",), ("nothing",))
        where = self.main(("gone", (), told, ""))
        outcome = ("jump", 0, "gone", (("outer", 0),) + told[1:])
        self.assertEqual([found[1][1] for found in self.leads(where, outcome)[0]], [(), ("q",)])

    def test_passing(self):
        mine = ("mine", (0,), ())
        where = self.f(("live", ("x",), (("outer", 1), mine, ("outer", 0)), "m"), told=(("outer", 0), ("outer", 1), ("ended",)))
        told = (("outer", 1), ("outer", 2), ("nothing",))
        for i, expected in ((0, 1), (2, 0)):
            outcome = ("jump", i, "gone", told)
            self.assertEqual(passing(self.program, where, outcome),
                             ("jump", expected, "gone", (("ended",), ("outer", 0), ("nothing",))))
            self.assertEqual(self.leads(where, outcome), ([], []))
        self.assertIsNone(passing(self.program, where, ("jump", 1, "gone", told)))

    def test_shut_places_do_not_count(self):
        told = (("mine", (0,), ("p",)), ("ended",), ("nothing",))
        outcome = ("jump", 0, "live", (("outer", 0),) + told[1:])
        where = self.main(("live", ("p",), told, "m"))
        shut = self.program.with_shut([("main", (1,)), ("main", (0,)), ("f", (0,))])
        self.assertEqual(self.leads(where, outcome, program=shut), self.leads(where, outcome))


class ByChance(unittest.TestCase):
    """Rows and outcomes by chance, most of them such that no run meets, against a plain way to do their steps."""

    def test_steps(self):
        seen = set()
        for number, program in enumerate(programs() + [rich_program(seed) for seed in range(40)]):
            chance = random.Random(number)
            for place in all_places(program):
                for _ in range(3):
                    where = chance_row(chance, program, place)
                    for plain in (False, True):
                        rows, faults, outcomes, end = Stand(program, where).steps(plain)
                        self.assertEqual(followers(program, where, plain=plain), sorted(rows), (program.functions(), where))
                        self.assertEqual(faulty(program, where, plain=plain), sorted(faults), (program.functions(), where))
                        self.assertEqual(leaving(program, where), sorted(outcomes), (program.functions(), where))
                        self.assertEqual(ending(program, where), end, (program.functions(), where))
                        seen |= {word for word, _ in faults} | {len(outcomes), len(rows) > 4}
        self.assertLessEqual({"fall", "gone", "lost", 0, 1, 2, True}, seen)

    def test_calls(self):
        seen = set()
        for number, program in enumerate(programs() + [rich_program(seed) for seed in range(40)]):
            chance = random.Random(number)
            for place in all_places(program):
                where = chance_row(chance, program, place)
                stand = Stand(program, where)
                one = stand.run.statement(*place)
                if one is None or one[0] != "call":
                    continue
                pair = called(program, where)
                self.assertEqual(pair, stand.begun())
                for _ in range(10):
                    outcome = chance_outcome(chance, program, pair[1])
                    for plain in (False, True):
                        rows, faults, passed = stand.behind(outcome, plain)
                        told = (program.functions(), where, outcome)
                        self.assertEqual(behind(program, where, outcome, plain=plain), sorted(rows), told)
                        self.assertEqual(lost_behind(program, where, outcome, plain=plain), sorted(faults), told)
                        self.assertEqual(passing(program, where, outcome), passed, told)
                        seen |= {passed is None, len(rows) > 2, len(faults)}
        self.assertEqual({True, False, 0, 1}, seen)


class Lists(unittest.TestCase):

    def test_new_lists(self):
        program = one(("jump", "m"))
        where = row(("live", ("p",), MINE, "m"))
        for query in (followers, faulty, leaving):
            told = query(program, where)
            query(program, where).append(None)
            self.assertEqual(query(program, where), told)

    def test_not_plain_where_it_is_not_said(self):
        where = row(("live", ("p",), (("mine", (1,), ("q",)), ("ended",)), ""))
        program = one(("jump", "m"))
        self.assertEqual([found[3][1] for found in followers(program, where)], [("p",), ("p", "q"), ("q",)])
        self.assertEqual(faulty(program, where), [("lost", (1,))])
        where = row(("live", ("p",), (("mine", (1,), ()), ("ended",)), ""))
        program, outcome = one(("call", "p", "f", ())), ("jump", 0, "live", (("outer", 0), ("ended",)))
        self.assertEqual([found[3][1] for found in behind(program, where, outcome)], [("p",)])
        self.assertEqual(lost_behind(program, where, outcome), [("lost", (1,))])
        where = row(("gone", ("p",), (("mine", (1,), ()), ("ended",)), ""))
        outcome = ("jump", 0, "gone", (("outer", 0), ("ended",)))
        self.assertEqual([found[3][1] for found in behind(program, where, outcome)], [(), ("p",)])

    def test_plain_is_passed_by_keyword(self):
        self.assertRaises(TypeError, lambda: followers(one(("rest",)), row(("new", (), NONE, "")), True))
        self.assertRaises(TypeError, lambda: faulty(one(("rest",)), row(("new", (), NONE, "")), True))

    def test_the_begin_of_main(self):
        program = one(("rest",))
        entry = begin_entry(program)
        self.assertEqual(followers(program, ("main", entry, (0,), ("new", (), entry[3], ""))),
                         [("main", entry, (1,), ("new", (), entry[3], ""))])


if __name__ == "__main__":
    unittest.main()
