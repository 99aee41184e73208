"""[50], with [6], [7], [9] and [13]: Table."""

import unittest

from landedback.errors import BackError, TooMany
from landedback.places import all_places, statement_at
from landedback.programs import Program
from landedback.rows import begin_entry, begin_row
from landedback.steps import behind, called, ending, faulty, followers, leaving, lost_behind, passing
from landedback.tables import Table
from tests.follow import Follow
from tests.reference import ARMED, CHAIN, DEEP, PLAN, STALE, chance_program, programs
from tests.shapes import rich_program

KINDS = [(plain, nothing) for plain in (False, True) for nothing in (False, True)]

# Values that are no rows of whatever table.
OTHERS = [None, True, False, 0, 1, "", "main", b"main", [], (), {}, set(), object(), Table, ((),) * 4, ("main",) * 4,
          ("main", (), (0,), ()), ("main", None, None, None), [("main",)], ({}, [], set(), {}), (("main",), (), (0,), ())]

# Values that are neither lists of rows nor runs with a fault.
MIXED = [None, True, False, 0, 1, "", "rows", b"", (), {}, set(), object(), Table, {"main": 1}, ((),)]


def main(body, result="p", **others):
    return Program({"main": ([], body, result), **others})


def ends(table):
    """The list of all tuples (function, entry, outcome) of a table."""
    return [pair + (outcome,) for pair in table.entries() for outcome in table.outcomes(*pair)]


def swapped(thing):
    """All values that are thing with one truth taken for 1 or 0, one of these for a truth, or one tuple for a list."""
    found = []
    if isinstance(thing, bool):
        found.append(int(thing))
    elif isinstance(thing, int) and thing in (0, 1):
        found.append(bool(thing))
    elif isinstance(thing, tuple):
        found.append(list(thing))
        for at, item in enumerate(thing):
            found += [thing[:at] + (other,) + thing[at + 1:] for other in swapped(item)]
    return found


def least_table(program, plain, nothing):
    """The rows and the ends of the table, by the words of the document, round by round."""
    rows, found = {begin_row(program, "main", begin_entry(program, nothing=nothing))}, set()
    many = None
    while many != (len(rows), len(found)):
        many = (len(rows), len(found))
        for row in list(rows):
            rows.update(followers(program, row, plain=plain))
            outcomes = leaving(program, row) + [ending(program, row)] * (ending(program, row) is not None)
            found.update(row[:2] + (outcome,) for outcome in outcomes)
            one = statement_at(program, (row[0], row[2]))
            if one is not None and one[0] == "call":
                pair = called(program, row)
                rows.add(begin_row(program, *pair))
                for outcome in [end[2] for end in list(found) if end[:2] == pair]:
                    rows.update(behind(program, row, outcome, plain=plain))
                    if passing(program, row, outcome) is not None:
                        found.add(row[:2] + (passing(program, row, outcome),))
    return rows, found


class Example(unittest.TestCase):

    def test_plan(self):
        program = Program(PLAN)
        table = Table(program)
        self.assertEqual(table.faults(), [("lost", "main", (1,))])
        self.assertEqual(Table(program, plain=True).faults(), [])
        entry = begin_entry(program)
        self.assertEqual([table.entries(), table.outcomes("main", entry), table.entry_cost("main", entry)],
                         [[("main", entry)], [], 0])
        told = (("mine", (1,), ()),)
        row = ("main", entry, (3, 0, 0), ("live", ("p",), told, ""))
        self.assertIn(row, table)
        self.assertEqual(table.cost(row), 4)
        self.assertIn(row, table.rows_at("main", (3, 0, 0)))
        self.assertEqual(Table(program.with_kept([("main", "p")])).faults(), [])


class Costs(unittest.TestCase):

    def costs(self, table, function, address):
        return [table.cost(row) for row in table.rows_at(function, address)]

    def test_the_begin(self):
        for program in programs():
            table = Table(program)
            for function, entry in table.entries():
                self.assertEqual(table.cost(begin_row(program, function, entry)), 0)
            self.assertEqual(table.entry_cost("main", begin_entry(program)), 0)

    def test_along_a_loop(self):
        program = main([("loop", [("move", "m", "n"), ("move", "n", "o"), ("mark", "o", [], [])]), ("rest",)])
        table = Table(program)
        # With each round a further cell tells the mark; a round is four steps.
        self.assertEqual(sorted(self.costs(table, "main", (0,))), [0, 4, 8, 12])
        self.assertEqual(sorted(self.costs(table, "main", (1,))), [1, 5, 9, 13])
        self.assertEqual(sorted(self.costs(table, "main", (2,))), [2, 6, 10, 14])

    def test_along_calls(self):
        program = main([("call", "p", "f", ()), ("call", "p", "f", ())], f=([], [("rest",), ("call", "p", "g", ())], "p"),
                       g=([], [("rest",)], "p"))
        table = Table(program, plain=True)
        (f, g), entry = [pair for pair in table.entries() if pair[0] != "main"], begin_entry(program)
        self.assertEqual([f, g], [("f", entry), ("g", entry)])
        self.assertEqual([table.entry_cost(*f), table.entry_cost(*g)], [1, 3])
        outcome = ("end", "new", False, (), "")
        self.assertEqual([table.outcomes(*f), table.outcomes(*g)], [[outcome], [outcome]])
        # One step for the rest, one for the end; those and a call in f.
        self.assertEqual([table.outcome_cost(*g, outcome), table.outcome_cost(*f, outcome)], [2, 5])
        self.assertEqual([self.costs(table, "main", (at,)) for at in range(3)], [[0], [6], [12]])
        self.assertEqual([self.costs(table, "f", (at,)) for at in range(3)], [[0], [1], [4]])
        self.assertEqual(len(table), 8)

    def test_the_last_step_of_a_landing(self):
        program = main([("mark", "m", [], []), ("call", "p", "f", ())], f=([], [("call", "p", "g", ())], "p"),
                       g=([], [("rest",), ("jump", "m")], "p"))
        table = Table(program)
        f, g = [pair for pair in table.entries() if pair[0] != "main"]
        outcome = ("jump", 0, "new", (("outer", 0),))
        self.assertEqual([table.outcomes(*f), table.outcomes(*g)], [[outcome], [outcome]])
        self.assertEqual([table.outcome_cost(*g, outcome), table.outcome_cost(*f, outcome)], [2, 3])
        self.assertEqual([table.entry_cost(*f), table.entry_cost(*g)], [2, 3])
        self.assertEqual(self.costs(table, "main", (1,)), [1])
        self.assertEqual(table.faults(), [])
        self.assertEqual(self.costs(table, "main", (2,)), [])

    def test_a_begin_that_is_found_late(self):
        """f is called with m armed, and later with n armed; both calls of f call g alike."""
        late = [("arm", "n")] + [("clear", "p")] * 3 + [("call", "p", "f", ())]
        program = main([("either", [[("arm", "m"), ("call", "p", "f", ())], late])],
                       f=([], [("rest",), ("call", "p", "g", ())], "p"), g=([], [("rest",)], "p"))
        table = Table(program.with_shut(all_places(program)))
        found = {pair[0] + pair[1][4]: table.entry_cost(*pair) for pair in table.entries()}
        self.assertEqual(found, {"main": 0, "fm": 3, "fn": 6, "g": 5})
        self.assertEqual(sorted(self.costs(table, "main", (1,))), [3 + 1 + 1 + 2 + 1])

    def test_a_function_that_calls_itself(self):
        program = main([("call", "p", "f", ())], f=([], [("either", [[("call", "p", "f", ())], []])], "p"))
        table = Table(program)
        self.assertEqual(len(table.entries()), 2)
        f = table.entries()[0]
        outcome = ("end", "new", False, (), "")
        self.assertEqual([table.entry_cost(*f), table.outcome_cost(*f, outcome)], [1, 2])
        self.assertEqual([self.costs(table, "f", (0, 0, 0)), self.costs(table, "f", (1,))], [[1], [1]])

    def test_the_least_of_two_ways(self):
        program = main([("either", [[("rest",), ("rest",), ("rest",)], [("clear", "p")], [("use", "p"), ("use", "p")]])])
        self.assertEqual(self.costs(Table(program), "main", (1,)), [2])


class Faults(unittest.TestCase):

    def test_of_outcomes(self):
        program = main([("call", "p", "f", ()), ("rest",)], f=([], [("get", "a")], "b"))
        table = Table(program)
        self.assertEqual(table.faults(), [("lost", "main", (0,))])
        self.assertEqual(Table(program, nothing=True).faults(), [])

    def test_of_a_landing_from_a_call_of_a_call(self):
        program = main([("mark", "m", [], []), ("call", "p", "f", ())], f=([], [("get", "a"), ("call", "b", "g", ())], "b"),
                       g=([], [("jump", "m")], "a"))
        self.assertEqual(Table(program).faults(), [("lost", "main", (0,))])

    def test_words(self):
        program = main([("get", "p"), ("free", "p"), ("use", "p"), ("get", "p"), ("jump", "m")])
        self.assertEqual(Table(program).faults(), [("fall", "main", (4,)), ("gone", "main", (2,))])
        self.assertEqual(Table(program, nothing=True).faults(), [("fall", "main", (4,))])

    def test_each_once(self):
        program = main([("loop", [("get", "p")]), ("loop", [("get", "q")])])
        self.assertEqual(Table(program).faults(), [("lost", "main", (0, 0, 0)), ("lost", "main", (1, 0, 0)),
                                                   ("lost", "main", (2,))])

    def test_no_further_behind_a_fault(self):
        program = main([("get", "p"), ("clear", "p"), ("take", "q", "p"), ("use", "q")])
        for row in Table(program).rows():
            self.assertEqual(row[3][0] == "new" or row[2] == (1,), True)

    def test_plain_and_nothing_are_passed_by_keyword(self):
        self.assertRaises(TypeError, lambda: Table(Program(PLAN), 1000))
        self.assertRaises(TypeError, lambda: Table(Program(PLAN), 1000, True, True))


class Many(unittest.TestCase):

    def test_as_many_and_one_more(self):
        for program in programs() + [rich_program(seed) for seed in range(10)]:
            for plain, nothing in KINDS:
                table = Table(program, most=4000, plain=plain, nothing=nothing)
                many = len(table)
                self.assertEqual(many, len(table.rows()))
                same = Table(program, most=many, plain=plain, nothing=nothing)
                self.assertEqual([same.rows(), ends(same), same.faults()], [table.rows(), ends(table), table.faults()])
                if many > 1:
                    with self.assertRaises(TooMany) as held:
                        Table(program, most=many - 1, plain=plain, nothing=nothing)
                    self.assertEqual(held.exception.limit, many - 1)
                    self.assertIsInstance(held.exception, BackError)

    def test_one_row_is_never_enough(self):
        self.assertEqual(len(Table(main([]), most=1)), 1)
        self.assertRaises(TooMany, lambda: Table(main([("rest",)]), most=1))

    def test_just_a_thousand(self):
        """One row for each place."""
        self.assertEqual(len(Table(main([("rest",)] * 999))), 1000)
        with self.assertRaises(TooMany) as held:
            Table(main([("rest",)] * 1000))
        self.assertEqual(held.exception.limit, 1000)

    def test_a_thousand_is_what_there_may_be_at_first(self):
        bodies = [[("mark", "m", [], [])], [("mark", "n", [], [])], [("get", "a")], [("take", "b", "a")], [("free", "b")]]
        small = main([("loop", [("either", bodies)])], result="a")
        self.assertEqual(len(Table(small)), 960)
        for further, many in (([("clear", "c")], 1080), ([("take", "c", "b")], 3825)):
            large = main([("loop", [("either", bodies + [further])])], result="a")
            with self.assertRaises(TooMany) as held:
                Table(large)
            self.assertEqual(held.exception.limit, 1000)
            table = Table(large, most=4000)
            self.assertEqual([len(table), len(set(table.rows()))], [many, many])
            self.assertEqual(len(Table(large, most=many)), many)
            self.assertRaises(TooMany, lambda: Table(large, most=many - 1))

class Rows(unittest.TestCase):

    def test_any_value(self):
        for program in (Program(PLAN), Program(DEEP), Program(ARMED), rich_program(10)):
            table = Table(program)
            for thing in OTHERS:
                self.assertIs(thing in table, False)
            for row in table.rows()[:60]:
                self.assertIs(row in table, True)
                for other in swapped(row):
                    self.assertIs(other in table, False, other)
                for other in (row[:3], row + ((),), row[::-1], row[:3] + (row[3][:3],), ("main", row), [row], list(row)):
                    self.assertIs(other in table, False)
            for end in ends(table):
                self.assertIs(end in table, False)

    def test_rows_that_no_run_meets(self):
        program = Program(PLAN)
        table = Table(program)
        told = (("mine", (1,), ("p",)),)
        entry = begin_entry(program)
        for row in (("main", entry, (3,), ("live", ("p",), told, "")), ("main", entry, (2,), ("new", (), told, "")),
                    ("main", entry, (3,), ("live", ("q",), (("nothing",),), "")),
                    ("main", ("live", (), False, entry[3], ""), (3,), ("live", ("p",), (("nothing",),), ""))):
            self.assertIs(row in table, False)

    def test_at_places(self):
        for program in programs():
            table = Table(program)
            for function, address in {(row[0], row[2]) for row in table.rows()}:
                rows = [row for row in table.rows() if (row[0], row[2]) == (function, address)]
                self.assertEqual(table.rows_at(function, address), rows)
        self.assertEqual(Table(Program(PLAN)).rows_at("main", (3, 1, 0)), [])

    def test_ascending(self):
        for program in programs():
            for plain, nothing in KINDS:
                table = Table(program, plain=plain, nothing=nothing)
                for found in (table.rows(), table.entries(), table.faults(), ends(table)):
                    self.assertEqual(found, sorted(set(found)))

    def test_new_lists(self):
        table = Table(Program(CHAIN))
        pair = table.entries()[0]
        for query in (table.rows, table.entries, table.faults, lambda: table.outcomes(*pair),
                      lambda: table.rows_at("f", (0,))):
            held = query()
            query().append(None)
            query().clear()
            self.assertEqual(query(), held)
        self.assertEqual(len(table), len(table.rows()))

    def test_a_call_that_does_not_begin_has_no_outcomes(self):
        program = Program(CHAIN)
        self.assertEqual(Table(program).outcomes("f", ("gone", (), True, (("ended",), ("ended",)), "n")), [])

    def test_not_iterated_over(self):
        self.assertRaises(TypeError, lambda: list(Table(Program(PLAN))))


class Least(unittest.TestCase):

    def test_round_by_round(self):
        for program in programs() + [rich_program(seed) for seed in range(12)]:
            for plain, nothing in KINDS:
                table = Table(program, plain=plain, nothing=nothing, most=4000)
                rows, found = least_table(program, plain, nothing)
                self.assertEqual(table.rows(), sorted(rows))
                self.assertEqual(ends(table), sorted(found))
                faults = [(fault[0], row[0], fault[1]) for row in rows for fault in faulty(program, row, plain=plain)]
                for row in rows:
                    one = statement_at(program, (row[0], row[2]))
                    if one is not None and one[0] == "call":
                        for outcome in table.outcomes(*called(program, row)):
                            lost = lost_behind(program, row, outcome, plain=plain)
                            faults += [(word, row[0], address) for word, address in lost]
                self.assertEqual(table.faults(), sorted(set(faults)))


class AgainstRuns(unittest.TestCase):
    """[6]: what all runs up to some depth show, by a plain way to do them, and the fewest steps to it."""

    def compare(self, program, plain, nothing, depth=25, most=700):
        table = Table(program, plain=plain, nothing=nothing, most=4000)
        runs = Follow(program, depth, plain=plain, nothing=nothing, most=most)
        told = (program.functions(), program.kept(), program.shut(), plain, nothing)
        rows = {row: table.entry_cost(*row[:2]) + table.cost(row) for row in table.rows()}
        self.assertEqual({row: steps for row, steps in rows.items() if steps <= runs.depth}, runs.rows, told)
        entries = {pair: table.entry_cost(*pair) for pair in table.entries()}
        self.assertEqual({pair: steps for pair, steps in entries.items() if steps <= runs.depth + 1}, runs.entries, told)
        found = {end: table.entry_cost(*end[:2]) + table.outcome_cost(*end) for end in ends(table)}
        self.assertEqual({end: steps for end, steps in found.items() if steps <= runs.depth + 1}, runs.outcomes, told)
        self.assertLessEqual(set(runs.faults), set(table.faults()), told)
        if runs.whole:
            self.assertEqual(sorted(runs.faults), table.faults(), told)
            self.assertEqual(len(runs.rows), len(table), told)
        return runs.whole

    def test_by_hand(self):
        for program in programs():
            for plain, nothing in KINDS:
                self.compare(program, plain, nothing)

    def test_by_chance(self):
        whole = 0
        for seed in range(30):
            for plain, nothing in KINDS:
                self.compare(chance_program(seed), plain, nothing)
                whole += self.compare(rich_program(seed), plain, nothing)
        self.assertGreater(whole, 30)

    def test_stale_marks(self):
        for plain, nothing in KINDS:
            self.compare(Program(STALE), plain, nothing, depth=40, most=3000)


NAMES = {"a": "ab", "b": "bz", "c": "q", "p": "qq", "q": "r", "r": "zz", "x": "zza", "y": "zzb", "z": "zzc"}
CELLS = {"m": "a", "n": "mm", "o": "z"}
FUNCTIONS = {"f": "a", "g": "gg", "main": "main"}


def renamed_body(body):
    found = []
    for one in body:
        word = one[0]
        if word in ("get", "take", "clear", "use", "free"):
            one = (word,) + tuple(NAMES[name] for name in one[1:])
        elif word == "call":
            one = (word, NAMES[one[1]], FUNCTIONS[one[2]], tuple(NAMES[name] for name in one[3]))
        elif word in ("jump", "move", "arm"):
            one = (word,) + tuple(CELLS[cell] for cell in one[1:])
        elif word == "either":
            one = (word, [renamed_body(inner) for inner in one[1]])
        elif word == "loop":
            one = (word, renamed_body(one[1]))
        elif word == "mark":
            one = (word, CELLS[one[1]], renamed_body(one[2]), renamed_body(one[3]))
        found.append(one)
    return found


def renamed_program(program):
    """The Program with other names, cells and functions, in the same orders."""
    functions = {FUNCTIONS[function]: ([NAMES[name] for name in parameters], renamed_body(body), NAMES[result])
                 for function, (parameters, body, result) in program.functions().items()}
    return Program(functions, kept=[(FUNCTIONS[function], NAMES[name]) for function, name in program.kept()],
                   shut=[(FUNCTIONS[function], address) for function, address in program.shut()])


def renamed_told(told):
    return tuple(item[:2] + (tuple(NAMES[name] for name in item[2]),) if item[0] == "mine" else item for item in told)


def renamed_entry(entry):
    return entry[:4] + (CELLS.get(entry[4], ""),)


def renamed_row(row):
    h, names, told, armed = row[3]
    state = (h, tuple(NAMES[name] for name in names), renamed_told(told), CELLS.get(armed, ""))
    return (FUNCTIONS[row[0]], renamed_entry(row[1]), row[2], state)


def renamed_end(end):
    outcome = end[2] if end[2][0] == "jump" else end[2][:4] + (CELLS.get(end[2][4], ""),)
    return (FUNCTIONS[end[0]], renamed_entry(end[1]), outcome)


class Renamed(unittest.TestCase):

    def test_names(self):
        """[13]."""
        for program in [rich_program(seed) for seed in range(25)]:
            other = renamed_program(program)
            for plain, nothing in KINDS:
                table = Table(program, plain=plain, nothing=nothing, most=4000)
                same = Table(other, plain=plain, nothing=nothing, most=4000)
                self.assertEqual(same.rows(), [renamed_row(row) for row in table.rows()])
                self.assertEqual(ends(same), [renamed_end(end) for end in ends(table)])
                self.assertEqual([same.cost(row) for row in same.rows()], [table.cost(row) for row in table.rows()])
                self.assertEqual(same.faults(), [(word, FUNCTIONS[function], address)
                                                 for word, function, address in table.faults()])


class Control(unittest.TestCase):

    def test_kept_names_do_not_matter_to_plain_runs(self):
        """[9]: in plain runs the places, and what the cells tell but for saved ones, are the same."""
        def bare(table):
            return {(row[0], row[2], row[3][3], tuple(item[:2] if item[0] == "mine" else item[:1] for item in row[3][2]))
                    for row in table.rows()}

        for program in [rich_program(seed) for seed in range(25)]:
            tables = [Table(program, most=4000, plain=True), Table(program.with_kept([]), most=4000, plain=True),
                      Table(program, most=4000, plain=True, nothing=True), Table(program, most=4000)]
            self.assertEqual(bare(tables[0]), bare(tables[1]))
            self.assertEqual(tables[0].faults(), tables[1].faults())
            self.assertEqual(bare(tables[0]), bare(tables[2]))
            self.assertEqual(bare(tables[0]), bare(tables[3]))


if __name__ == "__main__":
    unittest.main()
