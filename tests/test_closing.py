"""[51], with [7] and [4]: is_closed."""

import random
import unittest

from landedback.closing import is_closed
from landedback.places import all_places, statement_at
from landedback.programs import Program
from landedback.rows import begin_entry, begin_row
from landedback.steps import behind, called, ending, faulty, followers, leaving, lost_behind, passing
from landedback.tables import Table
from tests.reference import ARMED, CHAIN, DEEP, PLAN, STALE, programs
from tests.shapes import chance_entry, chance_outcome, chance_row, rich_program
from tests.test_tables import KINDS, MIXED, OTHERS, ends, swapped

# All things are freed; f is called in two ways, passes on a jump of g, and is jumped out of.
SAFE = {
    "main": ([], [("mark", "m", [], []), ("call", "p", "f", ("q",)), ("free", "p"), ("clear", "p")], "p"),
    "f": (["a"], [("get", "b"), ("either", [[("free", "b"), ("clear", "b"), ("call", "c", "g", ())], []]), ("mark", "n", [], [])], "b"),
    "g": ([], [("either", [[("jump", "m")], []])], "x"),
}

def lists(table):
    return table.rows(), ends(table)


def grown(program, rows, found, plain):
    """The rows and outcomes that are closed and have these, and whether they lead to a fault."""
    rows, found = set(rows), set(found)
    many, bad = None, False
    while many != (len(rows), len(found)):
        many = (len(rows), len(found))
        for row in list(rows):
            bad = bad or bool(faulty(program, row, plain=plain))
            rows.update(followers(program, row, plain=plain))
            found.update(row[:2] + (outcome,) for outcome in leaving(program, row))
            if ending(program, row) is not None:
                found.add(row[:2] + (ending(program, row),))
            one = statement_at(program, (row[0], row[2]))
            if one is None or one[0] != "call":
                continue
            pair = called(program, row)
            rows.add(begin_row(program, *pair))
            for outcome in [end[2] for end in list(found) if end[:2] == pair]:
                bad = bad or bool(lost_behind(program, row, outcome, plain=plain))
                rows.update(behind(program, row, outcome, plain=plain))
                if passing(program, row, outcome) is not None:
                    found.add(row[:2] + (passing(program, row, outcome),))
        if len(rows) > 600:
            return None
    return sorted(rows), sorted(found), bad


class OfTables(unittest.TestCase):

    def test_their_own_lists(self):
        """[7]: closed without a fault just if the table has none."""
        seen = set()
        for program in programs() + [Program(SAFE)] + [rich_program(seed) for seed in range(60)]:
            for plain, nothing in KINDS:
                table = Table(program, plain=plain, nothing=nothing, most=4000)
                rows, outcomes = lists(table)
                told = is_closed(program, rows, outcomes, plain=plain, nothing=nothing)
                self.assertIs(told, table.faults() == [])
                seen.add((told, plain, nothing))
        self.assertEqual(len(seen), 8)

    def test_with_one_left_out(self):
        for plain, nothing in KINDS:
            program = Program(SAFE)
            rows, outcomes = lists(Table(program, plain=plain, nothing=nothing))
            self.assertGreater(len(outcomes), 3)
            for at in range(len(rows)):
                self.assertIs(is_closed(program, rows[:at] + rows[at + 1:], outcomes, plain=plain, nothing=nothing), False)
            for at in range(len(outcomes)):
                fewer = outcomes[:at] + outcomes[at + 1:]
                self.assertIs(is_closed(program, rows, fewer, plain=plain, nothing=nothing), False)

    def test_with_one_left_out_by_chance(self):
        tried = 0
        for seed in range(60):
            program = rich_program(seed)
            for plain, nothing in KINDS:
                table = Table(program, plain=plain, nothing=nothing, most=4000)
                rows, outcomes = lists(table)
                if table.faults() or len(rows) > 300:
                    continue
                chance = random.Random(seed)
                for at in chance.sample(range(len(rows)), min(5, len(rows))):
                    fewer = rows[:at] + rows[at + 1:]
                    self.assertIs(is_closed(program, fewer, outcomes, plain=plain, nothing=nothing), False)
                for at in chance.sample(range(len(outcomes)), min(5, len(outcomes))):
                    fewer = outcomes[:at] + outcomes[at + 1:]
                    self.assertIs(is_closed(program, rows, fewer, plain=plain, nothing=nothing), False)
                    tried += 1
        self.assertGreater(tried, 20)

    def test_twice_and_in_whatever_order(self):
        program = Program(SAFE)
        rows, outcomes = lists(Table(program))
        self.assertIs(is_closed(program, rows + rows[:1], outcomes + outcomes[-1:]), True)
        self.assertIs(is_closed(program, rows[::-1], outcomes[::-1]), True)
        self.assertIs(is_closed(program, rows + rows, outcomes + outcomes), True)

    def test_other_begins(self):
        program = Program(SAFE)
        rows, outcomes = lists(Table(program))
        others, further = lists(Table(program, nothing=True))
        self.assertIs(is_closed(program, rows, outcomes, nothing=True), False)
        self.assertIs(is_closed(program, others, further), False)
        for nothing in (False, True):
            self.assertIs(is_closed(program, rows + others, outcomes + further, nothing=nothing), True)
        self.assertIs(is_closed(program, [], []), False)

    def test_plain(self):
        program = Program(PLAN)
        rows, outcomes = lists(Table(program, plain=True))
        self.assertIs(is_closed(program, rows, outcomes, plain=True), True)
        self.assertIs(is_closed(program, rows, outcomes), False)
        kept = program.with_kept([("main", "p")])
        self.assertIs(is_closed(kept, *lists(Table(kept))), True)

    def test_keywords(self):
        program = Program(SAFE)
        self.assertRaises(TypeError, lambda: is_closed(program, [], [], True))

    def test_a_large_one(self):
        bodies = [[("mark", "m", [], [])], [("mark", "n", [], [])], [("get", "a")], [("take", "b", "a")], [("free", "b")],
                  [("take", "c", "b")]]
        program = Program({"main": ([], [("loop", [("either", bodies)])], "a")})
        table = Table(program, most=4000, nothing=True)
        self.assertIs(is_closed(program, table.rows(), [], nothing=True), True)
        table = Table(program, most=4000)
        self.assertIs(is_closed(program, table.rows(), []), False)


class Further(unittest.TestCase):
    """Rows and outcomes that no run meets."""

    def test_rows_with_all_to_which_they_lead(self):
        seen = set()
        for seed in range(100):
            chance = random.Random(seed)
            program = chance.choice([Program(SAFE), Program(PLAN, kept=[("main", "p")]), Program(CHAIN, kept=[("f", "y")])])
            places = all_places(program)
            for plain, nothing in KINDS:
                rows = [begin_row(program, "main", begin_entry(program, nothing=nothing))]
                rows += [chance_row(chance, program, chance.choice(places)) for _ in range(chance.randint(0, 2))]
                outcomes = []
                if chance.random() < 0.5 and "f" in program.functions():
                    entry = chance_entry(chance, program, "f")
                    outcomes = [("f", entry, chance_outcome(chance, program, entry))]
                found = grown(program, rows, outcomes, plain)
                if found is not None:
                    told = is_closed(program, found[0], found[1], plain=plain, nothing=nothing)
                    self.assertIs(told, not found[2])
                    seen.add(told)
                    if told:
                        row = chance.choice(found[0])
                        fewer = [one for one in found[0] if one != row]
                        again = grown(program, fewer, found[1], plain)[0]
                        if row in again or row == rows[0]:
                            self.assertIs(is_closed(program, fewer, found[1], plain=plain, nothing=nothing), False)
        self.assertEqual(seen, {True, False})

    def test_a_row_with_a_fault(self):
        program = Program(PLAN, kept=[("main", "p")])
        rows, outcomes = lists(Table(program))
        told = (("nothing",),)
        entry = begin_entry(program)
        self.assertIs(is_closed(program, rows, outcomes), True)
        for row in (("main", entry, (6,), ("live", ("p",), told, "")), ("main", entry, (3, 0, 0), ("gone", (), told, "")),
                    ("main", entry, (4,), ("gone", ("p",), told, "")), ("main", entry, (0,), ("live", ("p",), told, ""))):
            self.assertIs(is_closed(program, rows + [row], outcomes), False)
        fine = ("main", entry, (6,), ("gone", ("p",), (("ended",),), ""))
        self.assertIs(is_closed(program, rows + [fine], outcomes), True)

    def test_an_outcome_with_a_fault(self):
        program = Program(SAFE)
        rows, outcomes = lists(Table(program))
        f = [end for end in outcomes if end[0] == "f" and end[1][0] == "new"][0]
        told = f[1][3]
        lost = ("f", f[1], ("end", "live", False, told, ""))
        self.assertIs(is_closed(program, rows, outcomes), True)
        self.assertIs(is_closed(program, rows, outcomes + [lost]), False)
        # Of a call that begins nowhere it leads to nothing.
        entry = ("new", (), False, (("ended",), ("nothing",)), "m")
        self.assertIs(is_closed(program, rows, outcomes + [("f", entry, ("end", "live", False, entry[3], ""))]), True)

    def test_rows_of_functions_that_are_not_reached(self):
        program = Program({"main": ([], [], "p"), "f": ([], [("move", "m", "m")], "a")})
        entry, other = begin_entry(program), ("gone", (), True, (("outer", 0),), "")
        first = ("main", entry, (0,), ("new", (), entry[3], ""))
        rows = [("f", other, (at,), ("gone", (), (("outer", 0),), "")) for at in range(2)]
        outcome = ("f", other, ("end", "gone", False, (("outer", 0),), ""))
        self.assertIs(is_closed(program, [first], []), True)
        self.assertIs(is_closed(program, [first], [outcome]), True)
        self.assertIs(is_closed(program, [first] + rows, [outcome]), True)
        self.assertIs(is_closed(program, [first] + rows, []), False)
        self.assertIs(is_closed(program, [first] + rows[:1], [outcome]), False)
        self.assertIs(is_closed(program, [first] + rows[1:], [outcome]), True)


class Forms(unittest.TestCase):
    """A row or an outcome is put beside a closed table; it stands alone if it leads to nothing but itself."""

    program = Program({
        "main": ([], [("mark", "n", [], []), ("call", "p", "f", ("q", "q")), ("arm", "m"), ("arm", "o")], "p"),
        "f": (["y", "x"], [("mark", "m", [], []), ("jump", "n"), ("mark", "n", [], [])], "x"),
    }, kept=[("f", "y")])
    told = (("outer", 0), ("ended",), ("outer", 0))
    none = (("nothing",), ("nothing",), ("nothing",))

    def row(self, *, function="f", address=(3,), h="live", names=("x",), told=None, armed="", entry=0):
        """A row at the end of f."""
        entry = ("live", (0, 1), True, self.told, "n") if entry == 0 else entry
        return (function, entry, address, (h, names, told or self.told, armed))

    def holds(self, rows, outcomes):
        """Whether they are closed once all is added to which they lead; so all hangs on their forms."""
        found = grown(self.program, [begin_row(self.program, "main", begin_entry(self.program))], [], False)
        for row in rows:
            try:
                end = ending(self.program, row)
                if end is not None:
                    outcomes = outcomes + [row[:2] + (end,)]
            except (TypeError, IndexError, KeyError, ValueError, AttributeError):
                pass
        return is_closed(self.program, found[0] + rows, found[1] + outcomes)

    def test_rows(self):
        mine = (("mine", (0,), ("x",)), ("mine", (2,), ()), ("outer", 0))
        new, gone = ("new", (), False, self.told, ""), ("gone", (0,), False, self.told, "")
        fine = [self.row(), self.row(names=("x", "y")), self.row(names=()), self.row(told=mine), self.row(told=self.none),
                self.row(h="gone", names=()), self.row(h="new", names=(), entry=new), self.row(names=("y",), entry=new),
                self.row(h="gone", names=(), entry=new), self.row(h="gone", entry=gone), self.row(told=mine, entry=new),
                self.row(h="nothing", names=(), entry=("nothing", (1,), False, self.told, "")),
                self.row(names=("x",), entry=("live", (), False, self.none, ""), told=self.none)]
        for row in fine:
            self.assertIs(self.holds([row], []), True, row)
            for other in swapped(row):
                self.assertIs(self.holds([other], []), False, other)
        self.assertIs(self.holds(fine, []), True)

    def test_wrong_rows(self):
        new, gone = ("new", (), False, self.told, ""), ("gone", (0,), False, self.told, "")
        nothing = ("nothing", (), False, self.told, "")
        outer = (("ended",), ("outer", 1), ("outer", 1))
        for row in (self.row(function="g"), self.row(function=""), self.row(function=None), self.row(function=["f"]),
                    self.row(address=(4,)), self.row(address=()), self.row(address=(0, 0)), self.row(address=(0, 0, 0)),
                    self.row(address=3), self.row(address=[3]), self.row(address=(-1,)), self.row(address=({},)),
                    self.row(h="new"), self.row(h="new", names=()), self.row(h="nothing"), self.row(h=""), self.row(h=None),
                    self.row(h=["live"]), self.row(h="live", entry=gone), self.row(h="new", names=(), entry=gone),
                    self.row(h="new", names=("x",), entry=new), self.row(h="nothing", names=(), entry=new),
                    self.row(h="gone", entry=nothing), self.row(h="live", names=(), entry=new),
                    self.row(names=("z",)), self.row(names=("y", "x")), self.row(names=("x", "x")), self.row(names="x"),
                    self.row(names=["x"]), self.row(names=(["x"],)), self.row(names=(0,)), self.row(names=("p",)),
                    self.row(names=None), self.row(armed="p"), self.row(armed=None), self.row(armed=["m"]), self.row(armed=0),
                    self.row(told=self.none[:2]), self.row(told=self.none + self.none[:1]), self.row(told=list(self.none)),
                    self.row(told=((), (), ())), self.row(told=("nothing",) * 3), self.row(told=((["ended"],),) * 3),
                    self.row(told=(("outer", 1), ("ended",), ("ended",))), self.row(told=(("outer", 2),) + self.none[1:]),
                    self.row(told=(("outer", 0, 0),) + self.none[1:]), self.row(told=(("outer",),) + self.none[1:]),
                    self.row(told=(("outer", -1),) + self.none[1:]), self.row(told=(("outer", 3),) + self.none[1:]),
                    self.row(told=(("outer", "0"),) + self.none[1:]), self.row(told=(("ended", 0),) + self.none[1:]),
                    self.row(told=(("other",),) + self.none[1:])):
            self.assertIs(self.holds([row], []), False, row)
        self.assertIs(self.holds([self.row(told=outer, entry=("live", (), True, outer, ""))], []), True)
        self.assertIs(self.holds([self.row(told=outer)], []), False)

    def test_wrong_rows_that_lead_nowhere(self):
        """At the end of main nothing hangs on what they lead to."""
        entries = {h: (h, (), False, self.none, "") for h in ("new", "live", "gone", "nothing", "old")}
        fine = {("new", "new", ()), ("new", "gone", ()), ("new", "gone", ("p",)), ("live", "gone", ()), ("live", "gone", ("p",)),
                ("gone", "gone", ()), ("gone", "gone", ("p",)), ("nothing", "nothing", ()), ("nothing", "nothing", ("p",))}
        for first, entry in entries.items():
            for h in ("new", "live", "gone", "nothing", "old"):
                for names in ((), ("p",)):
                    row = ("main", entry, (4,), (h, names, self.none, ""))
                    self.assertIs(self.holds([row], []), (first, h, names) in fine, row)

    def test_marks_in_rows(self):
        new = ("new", (), False, self.told, "")
        for item in (("mine", (1,), ()), ("mine", (3,), ()), ("mine", (4,), ()), ("mine", (0,), ("y",)), ("mine", (0,)),
                     ("mine", (0,), ("x", "x")), ("mine", (0,), ["x"]), ("mine", [0], ()), ("mine", 0, ()), ("mine", (0,), "x"),
                     ("mine", (0,), (), ()), ("mine",), ("mine", (0,), None), ("yours", (0,), ()), ("mine", (0,), ("z",)), ["mine", (0,), ()]):
            self.assertIs(self.holds([self.row(told=(item,) + self.none[1:])], []), False, item)
        for item in (("mine", (0,), ()), ("mine", (2,), ()), ("mine", (0,), ("x",))):
            self.assertIs(self.holds([self.row(told=(item,) + self.none[1:])], []), True)
        self.assertIs(self.holds([self.row(told=(("mine", (0,), ()),) * 3, h="new", names=(), entry=new)], []), True)
        for item, expected in ((("mine", (0,), ("q",)), True), (("yours", (0,), ("q",)), False), (("mine", (0,), ("x",)), False)):
            state = ("gone", (), (item,) * 3, "")
            self.assertIs(self.holds([("main", ("gone", (), False, self.none, ""), (4,), state)], []), expected)
        self.assertIs(self.holds([self.row(told=(("mine", (0,), ("x",)),) * 3, h="new", names=(), entry=new)], []), False)

    def test_entries(self):
        for entry in (("live", (0, 1), True, self.told), ("live", (0, 1), True, self.told, "n", ""), [], None, (), "live",
                      ["live", (0, 1), True, self.told, "n"], ("old", (), True, self.told, ""), (None, (), True, self.told, ""),
                      ("live", (1, 0), True, self.told, ""), ("live", (2,), True, self.told, ""),
                      ("live", (0, 0), True, self.told, ""), ("live", [0], True, self.told, ""),
                      ("live", (-1,), True, self.told, ""), ("live", ("x",), True, self.told, ""),
                      ("live", (), None, self.told, ""), ("live", (), "", self.told, ""), ("live", (), True, self.told, "p"),
                      ("live", (), True, self.told, None), ("live", (), True, self.told[:2], ""),
                      ("live", (), True, (("outer", 1), ("outer", 1), ("outer", 0)), ""),
                      ("live", (), True, (("outer", 2), ("ended",), ("outer", 2)), ""),
                      ("live", (), True, (("ended",), ("ended",), ("outer", 0)), ""),
                      ("live", (), True, (("mine", (0,), ()), ("ended",), ("ended",)), ""),
                      ("live", (), True, (("outer", 0), ("outer", 0), ("outer", 1)), ""),
                      ("live", (), True, (("outer", 0, 0), ("ended",), ("ended",)), ""),
                      ("live", (), True, (("outer", 0), ("outer", 0, 0), ("ended",)), ""),
                      ("live", (), True, (("ended", 0), ("ended",), ("ended",)), ""),
                      ("live", (), True, (("other",), ("ended",), ("ended",)), ""),
                      ("old", (), False, self.none, ""), ("new", (0,), False, self.none, ""), ("new", (), True, self.none, ""),
                      ("nothing", (), True, self.none, ""), (["live"], (), True, self.none, "")):
            for h, names in (("live", ("x",)), ("new", ()), ("nothing", ())):
                row = self.row(h=h, names=names, told=self.none, entry=entry)
                self.assertIs(self.holds([row], []), False, row)
                self.assertIs(self.holds([], [("f", entry, ("end", h, False, self.none, ""))]), False, entry)
        for entry in (("live", (), False, (("outer", 0), ("outer", 0), ("outer", 0)), "o"),
                      ("live", (1,), False, (("nothing",), ("outer", 1), ("outer", 2)), ""),
                      ("live", (0, 1), True, (("ended",), ("outer", 1), ("outer", 1)), "m")):
            self.assertIs(self.holds([self.row(told=self.none, entry=entry)], []), True, entry)

    def test_entries_of_main(self):
        for outside, told, expected in ((False, self.none, True), (True, self.none, False), (False, self.told, False),
                                        (False, (("ended",),) * 3, True)):
            row = ("main", ("gone", (), outside, told, ""), (4,), ("gone", ("p",), self.none, ""))
            self.assertIs(self.holds([row], []), expected)
        row = ("main", ("gone", (), False, self.none, ""), (4,), ("gone", ("p",), self.told, ""))
        self.assertIs(self.holds([row], []), False)
        row = ("main", ("gone", (0,), False, self.none, ""), (4,), ("gone", ("p",), self.none, ""))
        self.assertIs(self.holds([row], []), False)

    def test_outcomes(self):
        entry, new = ("live", (), False, self.told, "n"), ("new", (), False, self.told, "")
        nothing = ("nothing", (0,), False, self.told, "")
        fine = [("f", entry, ("end", "live", False, self.told, "")), ("f", entry, ("end", "gone", True, self.none, "o")),
                ("f", entry, ("jump", 0, "live", self.none)), ("f", new, ("end", "new", False, self.told, "m")),
                ("f", new, ("end", "live", True, self.told, "")), ("f", new, ("jump", 0, "new", self.told)),
                ("f", new, ("jump", 0, "gone", self.told)), ("f", nothing, ("end", "nothing", True, self.none, ""))]
        self.assertIs(self.holds([], fine), True)
        for end in fine:
            self.assertIs(self.holds([], [end]), True, end)
            for other in swapped(end):
                self.assertIs(self.holds([], [other]), False, other)

    def test_wrong_outcomes(self):
        entry, new = ("live", (), False, self.told, "n"), ("new", (), False, self.told, "")
        mine = (("mine", (0,), ()),) + self.none[1:]
        for end in (("f", entry), ("f", entry, None), ("f", entry, ()), ("f", entry, ("end",)), ("f", entry, ("jump",)),
                    ("g", entry, ("end", "live", True, self.none, "")), ("main", entry, ("end", "live", True, self.none, "")),
                    ("main", ("new", (), False, self.none, ""), ("end", "new", False, self.none, "")),
                    ("f", entry, ("end", "live", True, self.none)), ("f", entry, ("end", "live", None, self.none, "")),
                    ("f", entry, ("end", "new", False, self.none, "")), ("f", entry, ("end", "nothing", False, self.none, "")),
                    ("f", entry, ("end", "live", True, mine, "")), ("f", entry, ("end", "live", True, self.none[:2], "")),
                    ("f", entry, ("end", "live", True, self.none, "p")), ("f", entry, ("end", "live", True, self.none, None)),
                    ("f", entry, ("end", "live", True, (("outer", 2),) + self.none[1:], "")),
                    ("f", new, ("end", "new", True, self.none, "")), ("f", entry, ("jump", 2, "live", self.none)),
                    ("f", entry, ("jump", 1, "live", self.none)), ("f", entry, ("jump", -3, "live", self.none)),
                    ("f", entry, ("jump", "0", "live", self.none)), ("f", entry, ("jump", 0, "new", self.none)),
                    ("f", entry, ("go", 0, "live", self.none)), ("f", entry, (["jump"], 0, "live", self.none)),
                    ("f", entry, ("jump", 0, "live", mine)), ("f", entry, ("jump", 0, "live", self.none, "")),
                    ("f", entry, ("jump", 3, "live", self.none)), ("f", entry, ["end", "live", True, self.none, ""]),
                    ["f", entry, ("end", "live", True, self.none, "")], ("f", entry, ("go", "live", True, self.none, "")),
                    ("f", entry, (["end"], "live", True, self.none, "")), (["f"], entry, ("jump", 0, "live", self.none))):
            self.assertIs(self.holds([], [end]), False, end)

    def test_other_values(self):
        program = Program(SAFE)
        rows, outcomes = lists(Table(program))
        for thing in MIXED:
            self.assertIs(is_closed(program, thing, outcomes), False)
            self.assertIs(is_closed(program, rows, thing), False)
        for thing in OTHERS:
            self.assertIs(is_closed(program, rows + [thing], outcomes), False)
            self.assertIs(is_closed(program, rows, outcomes + [thing]), False)
        self.assertIs(is_closed(program, tuple(rows), outcomes), False)
        self.assertIs(is_closed(program, rows, tuple(outcomes)), False)
        self.assertIs(is_closed(program, rows, rows), False)
        self.assertIs(is_closed(program, outcomes, outcomes), False)

    def test_of_another_program(self):
        program = Program(SAFE)
        for functions in (PLAN, DEEP, ARMED, STALE, CHAIN):
            rows, outcomes = lists(Table(Program(functions), plain=True))
            self.assertIs(is_closed(program, rows, outcomes, plain=True), False)

    def test_nothing_is_changed(self):
        program = Program(SAFE)
        rows, outcomes = lists(Table(program))
        held = list(rows), list(outcomes)
        is_closed(program, rows, outcomes)
        self.assertEqual((rows, outcomes), held)


if __name__ == "__main__":
    unittest.main()
