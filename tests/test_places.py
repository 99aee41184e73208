"""[23]: places, what stands there, and where it leads."""

import copy
import unittest

from landedback.places import after, all_places, entered, statement_at, ways
from landedback.programs import Program
from tests.reference import PLAN, Reference, programs

# Empty bodies, bodies that end a body, loops within loops, an either of many bodies.
BODY = [
    ("loop", [("loop", []), ("loop", [("use", "p"), ("loop", [("rest",)])])]),
    ("either", [[], [("rest",), ("either", [[("use", "p")], []])], [("loop", [("either", [[], []])])], []]),
    ("mark", "m", [], []),
    ("mark", "m", [("mark", "n", [("get", "p")], [])], [("jump", "m"), ("mark", "n", [], [("call", "p", "f", ())])]),
]
PROGRAM = Program({"main": ((), BODY, "p"), "f": ([], [], "p"), "g": ([], [("loop", [])], "p")})


def at(*address):
    return ("main", address)


class All(unittest.TestCase):

    def test_all(self):
        expected = [
            ("f", (0,)), ("g", (0,)), ("g", (1,)),
            at(0), at(0, 0, 0), at(0, 0, 1), at(0, 0, 1, 0, 0), at(0, 0, 1, 0, 1), at(0, 0, 1, 0, 1, 0, 0),
            at(1), at(1, 1, 0), at(1, 1, 1), at(1, 1, 1, 0, 0), at(1, 2, 0), at(1, 2, 0, 0, 0), at(2), at(3),
            at(3, 0, 0), at(3, 0, 0, 0, 0), at(3, 1, 0), at(3, 1, 1), at(3, 1, 1, 1, 0), at(4),
        ]
        self.assertEqual(all_places(PROGRAM), expected)

    def test_ascending_by_numbers(self):
        program = Program({"main": ([], [("rest",)] * 12, "p")})
        self.assertEqual(all_places(program), [at(j) for j in range(13)])

    def test_of_nothing(self):
        self.assertEqual(all_places(Program({"main": ([], [], "p")})), [at(0)])

    def test_all_may_be_shut(self):
        self.assertEqual(PROGRAM.with_shut(all_places(PROGRAM)).shut(), all_places(PROGRAM))

    def test_new_lists(self):
        all_places(PROGRAM).clear()
        self.assertEqual(len(all_places(PROGRAM)), 23)


class Statements(unittest.TestCase):

    def test_statements(self):
        self.assertEqual(statement_at(PROGRAM, at(0)), BODY[0])
        self.assertEqual(statement_at(PROGRAM, at(0, 0, 1, 0, 1, 0, 0)), ("rest",))
        self.assertEqual(statement_at(PROGRAM, at(1, 1, 1, 0, 0)), ("use", "p"))
        self.assertEqual(statement_at(PROGRAM, at(3, 1, 1)), ("mark", "n", [], [("call", "p", "f", ())]))
        self.assertEqual(statement_at(PROGRAM, at(3, 0, 0)), ("mark", "n", [("get", "p")], []))

    def test_ends(self):
        for place in (at(4), ("f", (0,)), ("g", (1,))):
            self.assertIsNone(statement_at(PROGRAM, place))

    def test_as_in_functions(self):
        program = Program({"main": ((), (("loop", (("call", "p", "f", ["p", "q"]),)),), "p"), "f": (("a", "b"), (), "a")})
        self.assertEqual(statement_at(program, at(0)), ("loop", [("call", "p", "f", ("p", "q"))]))
        self.assertEqual(statement_at(program, at(0, 0, 0)), ("call", "p", "f", ("p", "q")))

    def test_lists_are_new(self):
        held = copy.deepcopy(BODY)
        statement_at(PROGRAM, at(0))[1].clear()
        statement_at(PROGRAM, at(1))[1][1].append(("rest",))
        statement_at(PROGRAM, at(3))[3][1][3].clear()
        self.assertEqual([statement_at(PROGRAM, at(j)) for j in range(4)], held)
        self.assertEqual(PROGRAM.functions()["main"][1], held)
        self.assertEqual(BODY, held)


class Leading(unittest.TestCase):

    def test_after(self):
        rows = {
            at(0): at(1), at(0, 0, 0): at(0, 0, 1), at(0, 0, 1): at(0), at(0, 0, 1, 0, 0): at(0, 0, 1, 0, 1),
            at(0, 0, 1, 0, 1): at(0, 0, 1), at(0, 0, 1, 0, 1, 0, 0): at(0, 0, 1, 0, 1),
            at(1): at(2), at(1, 1, 0): at(1, 1, 1), at(1, 1, 1): at(2), at(1, 1, 1, 0, 0): at(2), at(1, 2, 0): at(2),
            at(1, 2, 0, 0, 0): at(1, 2, 0), at(2): at(3), at(3): at(4), at(3, 0, 0): at(4), at(3, 0, 0, 0, 0): at(4),
            at(3, 1, 0): at(3, 1, 1), at(3, 1, 1): at(4), at(3, 1, 1, 1, 0): at(4), ("g", (0,)): ("g", (1,)),
        }
        self.assertEqual(set(rows), {place for place in all_places(PROGRAM) if statement_at(PROGRAM, place) is not None})
        for place, expected in rows.items():
            self.assertEqual(after(PROGRAM, place), expected, place)

    def test_entered(self):
        rows = [
            (at(0), 0, at(0, 0, 0)), (at(0, 0, 0), 0, at(0, 0, 0)), (at(0, 0, 1), 0, at(0, 0, 1, 0, 0)),
            (at(1), 0, at(2)), (at(1), 1, at(1, 1, 0)), (at(1), 2, at(1, 2, 0)), (at(1), 3, at(2)),
            (at(1, 1, 1), 0, at(1, 1, 1, 0, 0)), (at(1, 1, 1), 1, at(2)), (at(1, 2, 0), 0, at(1, 2, 0, 0, 0)),
            (at(1, 2, 0, 0, 0), 0, at(1, 2, 0)), (at(1, 2, 0, 0, 0), 1, at(1, 2, 0)), (at(2), 0, at(3)),
            (at(2), 1, at(3)), (at(3), 0, at(3, 0, 0)), (at(3), 1, at(3, 1, 0)), (at(3, 0, 0), 0, at(3, 0, 0, 0, 0)),
            (at(3, 0, 0), 1, at(4)), (at(3, 1, 1), 0, at(4)), (at(3, 1, 1), 1, at(3, 1, 1, 1, 0)),
            (("g", (0,)), 0, ("g", (0,))),
        ]
        for place, b, expected in rows:
            self.assertEqual(entered(PROGRAM, place, b), expected, (place, b))

    def test_ways(self):
        rows = {
            at(0): [at(0, 0, 0), at(1)], at(0, 0, 0): [at(0, 0, 0), at(0, 0, 1)], at(0, 0, 1): [at(0), at(0, 0, 1, 0, 0)],
            at(0, 0, 1, 0, 0): [at(0, 0, 1, 0, 1)], at(1): [at(1, 1, 0), at(1, 2, 0), at(2)],
            at(1, 1, 1): [at(1, 1, 1, 0, 0), at(2)], at(1, 2, 0): [at(1, 2, 0, 0, 0), at(2)],
            at(1, 2, 0, 0, 0): [at(1, 2, 0)], at(2): [at(3)], at(3): [at(3, 0, 0)], at(3, 0, 0): [at(3, 0, 0, 0, 0)],
            at(3, 1, 0): [], at(3, 1, 1): [at(4)], at(3, 1, 1, 1, 0): [at(4)], at(4): [], ("f", (0,)): [],
            ("g", (0,)): [("g", (0,)), ("g", (1,))], ("g", (1,)): [],
        }
        for place, expected in rows.items():
            self.assertEqual(ways(PROGRAM, place), expected, place)

    def test_ways_of_each_word(self):
        simple = [("get", "p"), ("take", "p", "q"), ("clear", "p"), ("use", "p"), ("free", "p"), ("call", "p", "f", ()),
                  ("move", "m", "n"), ("arm", "m"), ("rest",)]
        program = Program({"main": ([], simple + [("jump", "m")], "p"), "f": ([], [], "p")})
        for j in range(len(simple)):
            self.assertEqual(ways(program, at(j)), [at(j + 1)])
        self.assertEqual(ways(program, at(len(simple))), [])

    def test_against_the_reference(self):
        for program in programs() + [PROGRAM]:
            other = Reference(program)
            for place in all_places(program):
                one = statement_at(program, place)
                self.assertEqual(one, other.statement(*place))
                if one is not None:
                    self.assertEqual(after(program, place), (place[0], other.behind(*place)))
                for b in range({"mark": 2, "loop": 1}.get(one[0], 0) if one else 0):
                    self.assertEqual(entered(program, place, b), (place[0], other.into(*place, b)))

    def test_nothing_is_changed(self):
        program = Program(PLAN)
        for place in all_places(program):
            ways(program, place).append("more")
        self.assertEqual(program, Program(PLAN))
        self.assertEqual(ways(program, at(1)), [at(2)])


if __name__ == "__main__":
    unittest.main()
