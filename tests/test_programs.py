"""[22], with [2], [3], [4] and [23]: Program, its errors in their order, and its methods."""

import copy
import unittest

from landedback.errors import BadCells, BadKept, BadShut, BadStatement, BackError, Unknown, Wrong
from landedback.programs import Program

EMPTY = {"main": ([], [], "p")}


def caught(*args, **more):
    """The error that Program raises: its class and its fields."""
    try:
        Program(*args, **more)
    except BackError as error:
        return (error.__class__.__name__,) + tuple(vars(error).values())
    return None


def big():
    """A program with all that a program has."""
    body = (
        ("get", "q"),
        ("mark", "m", (("call", "q", "f", ["q"]),), [("free", "q")]),
        ("either", ((), (("loop", [("call", "r", "a", ())]),), [("move", "n", "m")])),
    )
    return {
        "main": ((), body, "x"),
        "f": (("z", "b"), [("call", "z", "f", ("b", "z")), ("take", "c", "z")], "b"),
        "a": ([], (("jump", "m"), ("arm", "o"), ("rest",)), "e"),
    }


def right():
    """big(), as it may stand: f is called with two names."""
    functions = big()
    body = list(functions["main"][1])
    body[1] = ("mark", "m", (("call", "q", "f", ["q", "y"]),), [("free", "q")])
    functions["main"] = ((), tuple(body), "x")
    return functions


class WrongArguments(unittest.TestCase):

    def test_functions(self):
        wrong = [
            None, True, 0, "main", (), [], {}, [("main", ([], [], "p"))], set(), object(), Program(EMPTY),
            {"f": ([], [], "p")}, {"Main": ([], [], "p")}, {"main": None}, {"main": [[], [], "p"]}, {"main": ()},
            {"main": ([], [])}, {"main": ([], [], "p", "p")}, {"main": (["q"], [], "p")}, {"main": (("q",), [], "p")},
            {"main": (None, [], "p")}, {"main": ("", [], "p")}, {"main": ({}, [], "p")}, {"main": (set(), [], "p")},
            {"main": ([], None, "p")}, {"main": ([], "", "p")}, {"main": ([], {}, "p")}, {"main": ([], set(), "p")},
            {"main": ([], [], "")}, {"main": ([], [], "P")}, {"main": ([], [], None)}, {"main": ([], [], ["p"])},
            {"main": ([], [], "abcdefghi")}, {"main": ([], [], True)}, {"main": ([], [], {})},
        ]
        for functions in wrong:
            self.assertEqual(caught(functions), ("Wrong", 0), repr(functions))

    def test_other_functions(self):
        wrong = [
            (["a", "b", "c"], [], "p"), (["a", "a"], [], "p"), (("a", "a"), [], "p"), ("ab", [], "p"),
            ([""], [], "p"), ([1], [], "p"), ([True], [], "p"), ([None], [], "p"), ([["a"]], [], "p"),
            ([("a",)], [], "p"), ([{}], [], "p"), ({"a": 1}, [], "p"), (["a"], [], 0), (["a"], "use", "p"),
            [[], [], "p"], None, "abc", ("abc",),
        ]
        for function in wrong:
            self.assertEqual(caught({"main": ([], [], "p"), "f": function}), ("Wrong", 0), repr(function))

    def test_names_of_functions(self):
        for name in ("", "F", "f1", "abcdefghi", 0, True, None, (), ("f",), b"f", "f ", 1):
            functions = {"main": ([], [], "p"), name: ([], [], "p")}
            self.assertEqual(caught(functions), ("Wrong", 0), repr(name))

    def test_kept(self):
        wrong = [
            None, True, 0, "main", "", {}, set(), {("main", "p")}, {("main", "p"): 1}, object(), [None], ["main"],
            [["main", "p"]], [("main",)], [()], [("main", "p", "p")], [("main", "")], [("", "p")], [("main", "P")],
            [("main", None)], [("main", True)], [(1, "p")], [("main", ["p"])], [("main", (0,))], ("main", "p"),
            [("main", "p"), 5], [("main", {})], [([], "p")],
        ]
        for kept in wrong:
            self.assertEqual(caught(EMPTY, kept=kept), ("Wrong", 1), repr(kept))

    def test_shut(self):
        wrong = [
            None, True, 0, "main", "", {}, set(), {("main", (0,))}, object(), [None], ["main"], [["main", (0,)]],
            [("main",)], [()], [("main", (0,), 0)], [("main", [0])], [("main", 0)], [("main", ())],
            [("main", (0, 0))], [("main", (-1,))], [("main", (0, -1, 0))], [("main", (True,))], [("main", (False,))],
            [("main", (0, True, 0))], [("main", ("0",))], [("main", (None,))], [("", (0,))], [(0, (0,))],
            [("main", "p")], ("main", (0,)), [("main", (0,)), 5], [([], (0,))], [("main", ([],))],
        ]
        for shut in wrong:
            self.assertEqual(caught(EMPTY, shut=shut), ("Wrong", 2), repr(shut))

    def test_first_argument_first(self):
        self.assertEqual(caught(None, kept=None, shut=None), ("Wrong", 0))
        self.assertEqual(caught(EMPTY, kept=None, shut=None), ("Wrong", 1))

    def test_wrong_ahead_of_all_others(self):
        bad = {"main": ([], [5], "p")}
        self.assertEqual(caught(bad, kept=5), ("Wrong", 1))
        self.assertEqual(caught(bad, shut=5), ("Wrong", 2))
        self.assertEqual(caught(bad, kept=[("f", "p")], shut=5), ("Wrong", 2))
        self.assertEqual(caught({"main": (["a"], [5], "p")}), ("Wrong", 0))
        self.assertEqual(caught({"f": (["a"], [5], "p")}), ("Wrong", 0))

    def test_by_keyword(self):
        with self.assertRaises(TypeError):
            Program(EMPTY, [], [])
        self.assertEqual(Program(functions=EMPTY, shut=(), kept=()), Program(EMPTY))


class BadStatements(unittest.TestCase):

    def at(self, body, address):
        self.assertEqual(caught({"main": ([], body, "p")}), ("BadStatement", "main", address), repr(body))

    def test_items(self):
        for item in (None, True, 0, "get", "", [], (), {}, object(), ["get", "p"], ("get",), ("get", "p", "p"),
                     ("get", "P"), ("got", "p"), ("rest", 0), ("loop",), ("loop", 5), ("loop", None), ("either", []),
                     ("either", [5]), ("either", 5), ("mark", "m", [], 5), ("mark", "m", 5, []), ("mark", "", [], []),
                     ("call", "p", "f", 5), ("call", "p", "", ()), ("raise",), ("try", [], []), ([], "p"), ({},)):
            self.at([item], (0,))
            self.at((("rest",), item), (1,))
            self.at([("loop", [("rest",), item])], (0, 0, 1))
            self.at([("rest",), ("either", [[], (("rest",), item)])], (1, 1, 1))
            self.at([("mark", "m", [("rest",)], [item])], (0, 1, 0))

    def test_bodies_left_aside(self):
        self.at([("loop", [5])], (0, 0, 0))
        self.at([("loop", ("get", "p"))], (0, 0, 0))
        self.at([("loop", [["get", "p"]])], (0, 0, 0))
        self.at([("mark", "m", [5], 5)], (0,))
        self.at([("either", [[5], 5])], (0,))
        self.at([("either", [[5], [5]])], (0, 0, 0))

    def test_least(self):
        self.at([("rest",), 5, 5], (1,))
        self.at([("loop", [("loop", [5])]), 5], (0, 0, 0, 0, 0))
        self.at([("loop", [("loop", [("rest",)]), 5]), 5], (0, 0, 1))
        self.at([("mark", "m", [("rest",)], [5]), 5], (0, 1, 0))
        self.at([("mark", "m", [5], [5]), 5], (0, 0, 0))
        self.at([("either", [[("rest",)] * 11 + [5], [5]])], (0, 0, 11))
        self.at([("rest",)] * 11 + [5], (11,))

    def test_least_function(self):
        functions = {"main": ([], [5], "p"), "b": ([], [("rest",), 5], "p"), "a": ([], [], "p")}
        self.assertEqual(caught(functions), ("BadStatement", "b", (1,)))
        functions = {"z": ([], [5], "p"), "main": ([], [("rest",), 5], "p")}
        self.assertEqual(caught(functions), ("BadStatement", "main", (1,)))

    def test_calls(self):
        others = {"none": ([], [], "p"), "one": (["a"], [], "p"), "two": (("a", "b"), [], "p")}
        many = {"none": 0, "one": 1, "two": 2}
        for function in many:
            for names in ((), ("p",), ("p", "p"), [], ["p"], ["p", "q"]):
                item = ("call", "p", function, names)
                functions = dict(others, main=([], [("rest",), ("loop", [item])], "p"))
                expected = None if len(names) == many[function] else ("BadStatement", "main", (1, 0, 0))
                self.assertEqual(caught(functions), expected, item)

    def test_calls_of_none_and_of_main(self):
        self.at([("call", "p", "f", ())], (0,))
        self.at([("call", "p", "main", ())], (0,))
        functions = {"main": ([], [], "p"), "f": ([], [("call", "p", "main", ())], "p")}
        self.assertEqual(caught(functions), ("BadStatement", "f", (0,)))

    def test_calls_of_itself(self):
        functions = {"main": ([], [], "p"), "f": (["a"], [("call", "a", "f", ("a",))], "a")}
        self.assertIsNone(caught(functions))

    def test_least_of_both_sorts(self):
        self.at([("loop", [("call", "p", "f", ())]), 5], (0, 0, 0))
        self.at([("rest",), 5, ("call", "p", "f", ())], (1,))


class BadOthers(unittest.TestCase):

    def marks(self, many):
        return {"main": ([], [("loop", [("arm", cell) for cell in "abcdefgh"[:many]])], "p")}

    def test_cells(self):
        for many in range(8):
            expected = ("BadCells", many) if many > 3 else None
            self.assertEqual(caught(self.marks(many)), expected)

    def test_cells_of_all_functions(self):
        functions = {"main": ([], [("move", "a", "b")], "p"), "f": ([], [("mark", "c", [], [("jump", "d")])], "p")}
        self.assertEqual(caught(functions), ("BadCells", 4))
        functions["f"] = ([], [("mark", "a", [], [("jump", "b")]), ("arm", "c"), ("get", "d")], "p")
        self.assertIsNone(caught(functions))

    def test_kept(self):
        functions = {"main": ([], [("use", "q")], "p"), "f": (["a"], [("arm", "c")], "b")}
        for item in (("main", "p"), ("main", "q"), ("f", "a"), ("f", "b")):
            self.assertEqual(Program(functions, kept=[item]).kept(), [item])
        for item in (("main", "a"), ("f", "c"), ("f", "f"), ("f", "q"), ("g", "p"), ("main", "main")):
            self.assertEqual(caught(functions, kept=[item]), ("BadKept",) + item)

    def test_first_kept(self):
        self.assertEqual(caught(EMPTY, kept=[("main", "p"), ("main", "z"), ("a", "a")]), ("BadKept", "main", "z"))
        self.assertEqual(caught(EMPTY, kept=(("z", "p"), ("main", "z"))), ("BadKept", "z", "p"))

    def test_shut(self):
        functions = {"main": ([], [("mark", "m", [("rest",)], []), ("either", [[], [("rest",)]])], "p"),
                     "f": ([], [], "p")}
        places = [("main", (0,)), ("main", (0, 0, 0)), ("main", (1,)), ("main", (1, 1, 0)), ("main", (2,)), ("f", (0,))]
        for place in places:
            self.assertEqual(Program(functions, shut=[place]).shut(), [place])
        for place in (("main", (0, 0, 1)), ("main", (0, 1, 0)), ("main", (3,)), ("main", (2, 0, 0)), ("f", (1,)),
                      ("main", (1, 0, 0)), ("main", (1, 2, 0)), ("g", (0,)), ("main", (1, 1, 0, 0, 0))):
            self.assertEqual(caught(functions, shut=[place]), ("BadShut",) + place)

    def test_first_shut(self):
        self.assertEqual(caught(EMPTY, shut=(("main", (0,)), ("main", (7,)), ("a", (0,)))), ("BadShut", "main", (7,)))

    def test_order(self):
        cells = [("arm", cell) for cell in "abcd"]
        functions = {"main": ([], cells + [5], "p")}
        all_bad = {"kept": [("z", "z")], "shut": [("z", (9,))]}
        self.assertEqual(caught(functions, **all_bad), ("BadStatement", "main", (4,)))
        self.assertEqual(caught({"main": ([], cells, "p")}, **all_bad), ("BadCells", 4))
        self.assertEqual(caught(EMPTY, **all_bad), ("BadKept", "z", "z"))
        self.assertEqual(caught(EMPTY, shut=all_bad["shut"]), ("BadShut", "z", (9,)))

    def test_classes(self):
        for error, functions, more in (
                (Wrong, 5, {}), (BadStatement, {"main": ([], [5], "p")}, {}), (BadCells, self.marks(4), {}),
                (BadKept, EMPTY, {"kept": [("a", "a")]}), (BadShut, EMPTY, {"shut": [("a", (0,))]})):
            with self.assertRaises(error):
                Program(functions, **more)


class Methods(unittest.TestCase):

    def setUp(self):
        self.program = Program(right(), kept=(("main", "x"), ("f", "c"), ("main", "q"), ("f", "c")),
                               shut=[("main", (3,)), ("f", (0,)), ("main", (1, 0, 0)), ("main", (3,))])

    def test_big_is_wrong(self):
        self.assertEqual(caught(big()), ("BadStatement", "main", (1, 0, 0)))

    def test_functions(self):
        body = [
            ("get", "q"),
            ("mark", "m", [("call", "q", "f", ("q", "y"))], [("free", "q")]),
            ("either", [[], [("loop", [("call", "r", "a", ())])], [("move", "n", "m")]]),
        ]
        expected = {
            "a": ([], [("jump", "m"), ("arm", "o"), ("rest",)], "e"),
            "f": (["z", "b"], [("call", "z", "f", ("b", "z")), ("take", "c", "z")], "b"),
            "main": ([], body, "x"),
        }
        self.assertEqual(self.program.functions(), expected)
        self.assertEqual(list(self.program.functions()), ["a", "f", "main"])

    def test_of_a_function(self):
        program = self.program
        self.assertEqual([program.parameters(name) for name in ("main", "f", "a")], [[], ["z", "b"], []])
        self.assertEqual([program.result(name) for name in ("main", "f", "a")], ["x", "b", "e"])
        self.assertEqual([program.names(name) for name in ("main", "f", "a")],
                         [["q", "r", "x", "y"], ["b", "c", "z"], ["e"]])
        self.assertEqual([program.kept_names(name) for name in ("main", "f", "a")], [["q", "x"], ["c"], []])
        self.assertEqual([program.loose_names(name) for name in ("main", "f", "a")], [["r", "y"], ["b", "z"], ["e"]])
        self.assertEqual([program.calls(name) for name in ("main", "f", "a")], [["a", "f"], ["f"], []])

    def test_kept_of_one_function_alone(self):
        functions = {"main": ([], [("get", "p")], "p"), "f": ([], [], "p")}
        program = Program(functions, kept=[("f", "p")])
        self.assertEqual(program.kept_names("main"), [])
        self.assertEqual(program.loose_names("main"), ["p"])
        self.assertEqual(program.kept_names("f"), ["p"])
        self.assertEqual(program.loose_names("f"), [])

    def test_unknown(self):
        program = self.program
        for ask in (program.parameters, program.result, program.names, program.kept_names, program.loose_names,
                    program.calls):
            for name in ("g", "mains", "zzzzzzzz"):
                with self.assertRaises(Unknown) as held:
                    ask(name)
                self.assertIs(held.exception.function, name)

    def test_lists(self):
        self.assertEqual(self.program.kept(), [("f", "c"), ("main", "q"), ("main", "x")])
        self.assertEqual(self.program.shut(), [("f", (0,)), ("main", (1, 0, 0)), ("main", (3,))])
        self.assertEqual(self.program.cells(), ["m", "n", "o"])
        self.assertEqual([Program(EMPTY).kept(), Program(EMPTY).shut(), Program(EMPTY).cells()], [[], [], []])

    def test_reached(self):
        self.assertEqual(self.program.reached(), ["a", "f", "main"])
        self.assertEqual(Program(EMPTY).reached(), ["main"])
        call = {name: [("loop", [("call", "p", name, ())])] for name in "ab"}
        functions = {"main": ([], [], "p"), "a": ([], call["b"], "p"), "b": ([], call["a"], "p")}
        self.assertEqual(Program(functions).reached(), ["main"])
        functions["main"] = ([], call["b"], "p")
        self.assertEqual(Program(functions).reached(), ["a", "b", "main"])
        functions["b"] = ([], [], "p")
        self.assertEqual(Program(functions).reached(), ["b", "main"])
        functions["b"] = ([], call["b"] * 2 + call["a"], "p")
        self.assertEqual(Program(functions).calls("b"), ["a", "b"])
        functions["b"] = ([], [], "p")
        functions["zz"] = functions.pop("a")
        self.assertEqual(Program(functions).reached(), ["b", "main"])

    def test_with_kept(self):
        program = self.program
        other = program.with_kept([("a", "e"), ("a", "e")])
        self.assertEqual(other.kept(), [("a", "e")])
        self.assertEqual(other.shut(), program.shut())
        self.assertEqual(other.functions(), program.functions())
        self.assertEqual(other.loose_names("a"), [])
        self.assertEqual(program.kept(), [("f", "c"), ("main", "q"), ("main", "x")])
        self.assertEqual(program.loose_names("a"), ["e"])
        self.assertEqual(program.with_kept(()).kept(), [])
        for bad in ([("a", "e"), ("a", "z"), ("g", "e")], (("a", "z"),)):
            with self.assertRaises(BadKept) as held:
                program.with_kept(bad)
            self.assertEqual((held.exception.function, held.exception.name), ("a", "z"))

    def test_with_shut(self):
        program = self.program
        other = program.with_shut((("main", (2,)), ("a", (3,)), ("main", (2,))))
        self.assertEqual(other.shut(), [("a", (3,)), ("main", (2,))])
        self.assertEqual(other.kept(), program.kept())
        self.assertEqual(program.shut(), [("f", (0,)), ("main", (1, 0, 0)), ("main", (3,))])
        self.assertEqual(program.with_shut([]).shut(), [])
        with self.assertRaises(BadShut) as held:
            program.with_shut([("a", (3,)), ("a", (4,)), ("g", (0,))])
        self.assertEqual((held.exception.function, held.exception.address), ("a", (4,)))


class Equal(unittest.TestCase):

    def test_equal(self):
        one = Program(right(), kept=[("main", "q"), ("main", "x")], shut=[("f", (0,)), ("a", (0,))])
        turned = {name: right()[name] for name in reversed(list(right()))}
        lists = {name: (list(row[0]), list(row[1]), row[2]) for name, row in turned.items()}
        other = Program(lists, kept=(("main", "x"), ("main", "q"), ("main", "x")), shut=(("a", (0,)), ("f", (0,))))
        self.assertIs(one == other, True)
        self.assertIs(one != other, False)
        self.assertIs(one == Program(one.functions(), kept=one.kept(), shut=one.shut()), True)

    def test_unequal(self):
        one = Program(right())
        for other in (one.with_kept([("main", "q")]), one.with_shut([("main", (0,))]), Program(EMPTY),
                      Program(dict(right(), a=([], [], "e")), shut=[]), Program({"main": ([], [], "q")})):
            self.assertIs(one == other, False)
            self.assertIs(one != other, True)
        self.assertIs(one.with_kept([("main", "q")]).with_kept([]) == one, True)

    def test_equal_to_nothing_else(self):
        class Same:
            def __eq__(self, other):
                return True

        program = Program(EMPTY)
        for other in (None, 0, True, "main", EMPTY, program.functions(), [], object(), Program, Same()):
            self.assertIs(program == other, False)
            self.assertIs(program != other, True)


class Copies(unittest.TestCase):

    def test_nothing_handed_in_is_changed(self):
        functions, kept, shut = right(), [("main", "x"), ("main", "q")], [("main", (3,)), ("a", (0,))]
        held = copy.deepcopy((functions, kept, shut))
        program = Program(functions, kept=kept, shut=shut)
        program.with_kept(kept).with_shut(shut).reached()
        self.assertEqual((functions, kept, shut), held)
        self.assertEqual(list(functions), ["main", "f", "a"])

    def test_what_was_handed_in_may_change(self):
        inner = [("get", "p")]
        loop = ("loop", inner)
        body = [loop, ("either", [inner, inner])]
        names = ["p"]
        parameters = ["a"]
        functions = {"main": ([], body, "p"), "f": (parameters, [("call", "a", "f", names)], "a")}
        kept, shut = [("main", "p")], [("main", (2,))]
        program = Program(functions, kept=kept, shut=shut)
        told = copy.deepcopy((program.functions(), program.kept(), program.shut(), program.names("f")))
        inner.append(("use", "q"))
        body.clear()
        names.append("q")
        parameters.clear()
        kept.append(5)
        shut.clear()
        del functions["f"]
        self.assertEqual((program.functions(), program.kept(), program.shut(), program.names("f")), told)
        self.assertEqual(told[0]["main"][1], [("loop", [("get", "p")]), ("either", [[("get", "p")], [("get", "p")]])])

    def test_what_was_told_may_change(self):
        program = Program(right(), kept=[("main", "x")], shut=[("main", (3,))])
        asks = [program.kept, program.shut, program.cells, program.reached]
        asks += [lambda ask=ask: ask("main") for ask in (program.names, program.kept_names, program.loose_names,
                                                         program.calls)]
        asks += [lambda: program.parameters("f")]
        for ask in asks:
            held = copy.deepcopy(ask())
            self.assertTrue(held)
            ask().clear()
            ask().append("more")
            self.assertEqual(ask(), held)
        held = copy.deepcopy(program.functions())
        told = program.functions()
        told["main"][0].append("z")
        told["main"][1][1][2].append(("rest",))
        told["main"][1][2][1][1][0][1].clear()
        told["main"][1][2][1].clear()
        told["main"][1].clear()
        told["f"][1].clear()
        del told["a"]
        self.assertEqual(program.functions(), held)
        self.assertEqual(program.names("main"), ["q", "r", "x", "y"])
        self.assertEqual(program.cells(), ["m", "n", "o"])

    def test_no_list_stands_twice(self):
        inner = [("get", "p")]
        program = Program({"main": ([], [("either", [inner, inner]), ("mark", "m", inner, inner)], "p")})
        body = program.functions()["main"][1]
        body[0][1][0].clear()
        body[1][2].clear()
        self.assertEqual(body, [("either", [[], [("get", "p")]]), ("mark", "m", [], [("get", "p")])])

    def test_an_error_leaves_the_program(self):
        program = Program(right(), kept=[("main", "x")])
        for bad in (lambda: program.with_kept([("z", "z")]), lambda: program.with_shut([("z", (0,))]),
                    lambda: program.names("z")):
            self.assertRaises(BackError, bad)
        self.assertEqual(program, Program(right(), kept=[("main", "x")]))


if __name__ == "__main__":
    unittest.main()
