"""[21], [2]: the forms of statements, and what is asked of one."""

import copy
import unittest

from landedback.statements import bodies, cells_in, is_statement, made, named, read

SIMPLE = [
    ("get", "v"), ("take", "v", "w"), ("take", "v", "v"), ("clear", "v"), ("use", "v"), ("free", "v"),
    ("call", "v", "f", ()), ("call", "v", "f", []), ("call", "v", "f", ("w",)), ("call", "v", "f", ["w"]),
    ("call", "v", "f", ("w", "v")), ("call", "v", "f", ("w", "w")), ("call", "v", "main", ()),
    ("call", "f", "f", ("f",)),
    ("jump", "m"), ("move", "m", "n"), ("move", "m", "m"), ("arm", "m"), ("rest",),
]

NESTED = [
    ("either", [[]]), ("either", ([],)), ("either", [()]), ("either", ((),)),
    ("either", [[], [("get", "v")], (("use", "v"), ("free", "v"))]),
    ("loop", []), ("loop", ()), ("loop", [("get", "v")]), ("loop", (("get", "v"),)),
    ("mark", "m", [], []), ("mark", "m", (), ()), ("mark", "m", [("get", "v")], (("jump", "m"),)),
    ("loop", [("loop", (("either", [[("mark", "m", [], [("rest",)])], []]),))]),
]

AWKWARD = [
    None, True, False, 0, 1, -1, "", "get", "get p", b"get", (), [], {}, set(), object(), len, int, (1,), (None,),
    ((),), ([],), (["get"], "v"), ({}, "v"), (("get", "v"),), [("get", "v")], (b"get", "v"), ("",),
]

WRONG = [
    # lists for tuples
    ["get", "v"], ["rest"], ["loop", []], ["jump", "m"],
    # words that are none
    ("Get", "v"), ("gets", "v"), ("getv",), ("raise",), ("try", [], []), ("body", 0), ("go",), ("break", ()),
    # parts too few, too many
    ("get",), ("get", "v", "w"), ("take", "v"), ("take",), ("take", "v", "w", "w"), ("clear",), ("clear", "v", "v"),
    ("use",), ("use", "v", "v"), ("free",), ("free", "v", "v"), ("call", "v", "f"), ("call", "v"), ("call",),
    ("call", "v", "f", (), ()), ("either",), ("either", [[]], [[]]), ("loop",), ("loop", [], []), ("mark", "m"),
    ("mark", "m", []), ("mark", "m", [], [], []), ("mark", [], []), ("jump",), ("jump", "m", "m"), ("move", "m"),
    ("move", "m", "n", "n"), ("arm",), ("arm", "m", "m"), ("rest", "m"), ("rest", ()), ("rest", None),
    # no names
    ("get", ""), ("get", "abcdefghi"), ("get", "V"), ("get", "v1"), ("get", 0), ("get", None), ("get", True),
    ("get", ["v"]), ("get", ("v",)), ("get", b"v"), ("take", "v", ""), ("take", "", "v"), ("take", "v", 1),
    ("take", "v", ["w"]), ("clear", {}), ("use", []), ("free", "v "), ("jump", ""), ("jump", "M"), ("jump", 0),
    ("move", "m", 0), ("move", 0, "m"), ("arm", None), ("arm", "cellcells"), ("mark", "", [], []), ("mark", 1, [], []),
    # calls
    ("call", "v", "f", "w"), ("call", "v", "f", ""), ("call", "v", "f", None), ("call", "v", "f", {}),
    ("call", "v", "f", {"w"}), ("call", "v", "f", ("w", "w", "w")), ("call", "v", "f", ["a", "b", "c"]),
    ("call", "v", "f", ("w", 1)), ("call", "v", "f", (True,)), ("call", "v", "f", ("",)), ("call", "v", "f", [["w"]]),
    ("call", "v", "", ()), ("call", "v", 0, ()), ("call", "v", ["f"], ()), ("call", "", "f", ()), ("call", 1, "f", ()),
    # bodies
    ("either", []), ("either", ()), ("either", [None]), ("either", ["get"]), ("either", ""), ("either", {}),
    ("either", None), ("either", [("get", "v")]), ("either", [[], 5]), ("either", [[], {}]), ("either", [[5]]),
    ("either", [["get", "v"]]), ("either", {"a": []}), ("loop", None), ("loop", ""), ("loop", "get"), ("loop", {}),
    ("loop", ("get", "v")), ("loop", [5]), ("loop", [None]), ("loop", [["get", "v"]]), ("loop", [[]]),
    ("loop", [("get", "")]), ("loop", 0), ("mark", "m", None, []), ("mark", "m", [], None), ("mark", "m", [], ("rest",)),
    ("mark", "m", [5], []), ("mark", "m", [], [5]), ("mark", "m", [], "rest"), ("mark", "m", {}, []),
    ("loop", [("loop", [("loop", [("get", 0)])])]), ("either", [[], [("loop", [("use", "v", "w")])]]),
]


def depth(many):
    """A statement in which many loops stand within one another."""
    found = ("get", "v")
    for _ in range(many):
        found = ("loop", [found])
    return found


class Forms(unittest.TestCase):

    def test_statements(self):
        for thing in SIMPLE + NESTED:
            self.assertIs(is_statement(thing), True, repr(thing))

    def test_no_statements(self):
        for thing in AWKWARD + WRONG:
            self.assertIs(is_statement(thing), False, repr(thing))

    def test_no_statement_within_statements(self):
        for thing in AWKWARD + WRONG:
            self.assertIs(is_statement(("loop", [("rest",), thing])), False, repr(thing))
            self.assertIs(is_statement(("either", [[], [thing]])), False, repr(thing))
            self.assertIs(is_statement(("mark", "m", [thing], [])), False, repr(thing))
            self.assertIs(is_statement(("mark", "m", [], (thing,))), False, repr(thing))

    def test_within_statements(self):
        for thing in SIMPLE + NESTED:
            self.assertIs(is_statement(("loop", [thing])), True, repr(thing))
            self.assertIs(is_statement(("either", ([], (thing, thing)))), True, repr(thing))
            self.assertIs(is_statement(("mark", "m", (thing,), [thing])), True, repr(thing))

    def test_deep(self):
        self.assertIs(is_statement(depth(15)), True)
        self.assertIs(is_statement(("loop", [depth(10), ("get", 0)])), False)

    def test_same_each_time(self):
        for thing in SIMPLE + NESTED + AWKWARD + WRONG:
            self.assertEqual(is_statement(thing), is_statement(thing))

    def test_nothing_is_changed(self):
        for thing in SIMPLE + NESTED:
            kept = copy.deepcopy(thing)
            for ask in (is_statement, bodies, made, read, named, cells_in):
                ask(thing)
            self.assertEqual(thing, kept)


BIG = ("mark", "n",
       (("take", "q", "p"), ("either", (((("call", "v", "f", ["w", "a"]),)), [("move", "m", "o")]))),
       [("loop", (("free", "p"), ("arm", "p"), ("rest",)))])


class Bodies(unittest.TestCase):

    def test_none(self):
        for thing in SIMPLE:
            self.assertEqual(bodies(thing), [])

    def test_either(self):
        given = ("either", ((), (("get", "v"),), [("call", "v", "f", ["w"])]))
        self.assertEqual(bodies(given), [[], [("get", "v")], [("call", "v", "f", ("w",))]])

    def test_loop(self):
        self.assertEqual(bodies(("loop", ())), [[]])
        self.assertEqual(bodies(("loop", (("get", "v"),))), [[("get", "v")]])

    def test_mark(self):
        self.assertEqual(bodies(("mark", "m", (("get", "v"),), (("rest",),))), [[("get", "v")], [("rest",)]])
        self.assertEqual(bodies(("mark", "m", [], ())), [[], []])

    def test_inner_bodies(self):
        told = bodies(BIG)
        inner = [("take", "q", "p"), ("either", [[("call", "v", "f", ("w", "a"))], [("move", "m", "o")]])]
        self.assertEqual(told, [inner, [("loop", [("free", "p"), ("arm", "p"), ("rest",)])]])
        self.assertIsInstance(told[0][1][1][0], list)
        self.assertIsInstance(told[0][1][1][0][0][3], tuple)
        self.assertIsInstance(told[1][0][1], list)

    def test_lists_are_new(self):
        inner = [("get", "v")]
        given = ("either", [inner, inner, [("loop", inner)]])
        kept = copy.deepcopy(given)
        told = bodies(given)
        told[0].append("more")
        told[2][0][1].append("more")
        told.append("more")
        self.assertEqual(given, kept)
        self.assertEqual(told[1], [("get", "v")])
        self.assertEqual(bodies(given), kept[1])


class Names(unittest.TestCase):

    def test_made(self):
        expected = {"get": "v", "take": "v", "clear": "v", "call": "v"}
        for thing in SIMPLE:
            if thing != ("call", "f", "f", ("f",)):
                self.assertEqual(made(thing), expected.get(thing[0]))
        self.assertEqual(made(("call", "f", "g", ("h",))), "f")

    def test_made_of_bodies_is_none(self):
        for thing in NESTED:
            self.assertIsNone(made(thing))

    def test_read(self):
        rows = [
            (("get", "v"), []), (("take", "v", "w"), ["w"]), (("take", "v", "v"), ["v"]), (("clear", "v"), []),
            (("use", "v"), ["v"]), (("free", "v"), ["v"]), (("call", "v", "f", ()), []),
            (("call", "v", "f", ("w", "a")), ["a", "w"]), (("call", "v", "f", ["w", "w"]), ["w"]),
            (("jump", "v"), []), (("move", "v", "w"), []), (("arm", "v"), []), (("rest",), []),
            (("either", [[("use", "v")]]), []), (("loop", [("use", "v")]), []),
            (("mark", "m", [("use", "v")], [("free", "v")]), []),
        ]
        for statement, expected in rows:
            self.assertEqual(read(statement), expected, statement)

    def test_named(self):
        rows = [
            (("get", "v"), ["v"]), (("take", "w", "v"), ["v", "w"]), (("take", "v", "v"), ["v"]),
            (("clear", "v"), ["v"]), (("use", "v"), ["v"]), (("free", "v"), ["v"]),
            (("call", "v", "f", ("w", "a")), ["a", "v", "w"]), (("call", "v", "f", []), ["v"]),
            (("jump", "v"), []), (("move", "v", "w"), []), (("arm", "v"), []), (("rest",), []),
            (("either", [[("use", "v")], [("get", "a")]]), ["a", "v"]), (("loop", []), []),
            (("mark", "m", [("use", "v")], [("free", "u")]), ["u", "v"]), (BIG, ["a", "p", "q", "v", "w"]),
        ]
        for statement, expected in rows:
            self.assertEqual(named(statement), expected, statement)

    def test_cells(self):
        rows = [
            (("get", "v"), []), (("call", "v", "f", ("w", "a")), []), (("take", "v", "w"), []), (("jump", "v"), ["v"]),
            (("move", "w", "v"), ["v", "w"]), (("move", "v", "v"), ["v"]), (("arm", "v"), ["v"]), (("rest",), []),
            (("either", [[("jump", "v")], [("jump", "a")]]), ["a", "v"]), (("loop", [("arm", "m")]), ["m"]),
            (("mark", "m", [], []), ["m"]), (BIG, ["m", "n", "o", "p"]),
        ]
        for statement, expected in rows:
            self.assertEqual(cells_in(statement), expected, statement)

    def test_lists_are_new(self):
        for ask in (read, named, cells_in):
            for thing in SIMPLE + NESTED:
                told = ask(thing)
                kept = list(told)
                told.append("more")
                self.assertEqual(ask(thing), kept)


if __name__ == "__main__":
    unittest.main()
