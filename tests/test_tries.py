"""[80], with [2], [3] and [4]: is_tried, Tried and Trying."""

import copy
import random
import unittest

from landedback.errors import BackError, BadStatement, NoName, Over, Unfit, Unknown, Wrong
from landedback.programs import Program
from landedback.tries import Tried, Trying, is_tried
from tests.test_programs import EMPTY, caught as program_caught
from tests.test_statements import AWKWARD, NESTED, SIMPLE
from tests.trieds import DEEP_TRIED, INNER, NEVER, SPREAD, TWICE, TriedReference, tried_program, trieds

GO = ("go",)
TRIES = [("raise",), ("try", [], []), ("try", (), ()), ("try", [("get", "v")], (("raise",),)), INNER,
         ("try", [("try", [("loop", [("try", [("raise",)], [])])], [("raise",)])], [("either", [[("try", [], [])]])])]
MARKS = ("mark", "jump", "move", "arm", "rest")


def main(body, result="p", **others):
    return Tried({"main": ([], body, result), **others})


def caught(functions):
    """The error that Tried raises: its class and its fields."""
    try:
        Tried(functions)
    except BackError as error:
        return (error.__class__.__name__,) + tuple(vars(error).values())
    return None


def has_marks(one):
    return any(f"'{word}'" in repr(one) for word in MARKS)


class Statements(unittest.TestCase):

    def test_those_of_both_sorts(self):
        for one in SIMPLE + NESTED:
            self.assertIs(is_tried(one), not has_marks(one), repr(one))

    def test_tries(self):
        for one in TRIES:
            for thing in (one, ("loop", [one]), ("either", ((one,), [])), ("try", [one], (one, one))):
                self.assertIs(is_tried(thing), True, repr(thing))

    def test_no_statements(self):
        wrong = AWKWARD + [
            ["raise"], ["try", [], []], ("raise", "m"), ("raise", ()), ("raises",), ("try",), ("try", []), ("try", [], [], []),
            ("try", "m", [], []), ("try", None, []), ("try", [], None), ("try", [5], []), ("try", [], [5]), ("try", {}, []),
            ("try", ("raise",), []), ("try", [("jump", "m")], []), ("try", [], [("mark", "m", [], [])]), ("try", "", []),
            ("loop", [("rest",)]), ("either", [[], [("arm", "m")]]), ("get",), ("get", "V"), ("call", "v", "f", ("a", "b", "c")),
            ("either", []), ("jump", "m"), ("mark", "m", [], []), ("move", "m", "n"), ("arm", "m"), ("rest",)]
        for thing in wrong:
            self.assertIs(is_tried(thing), False, repr(thing))
            self.assertIs(is_tried(("try", [thing], [])), False, repr(thing))
            self.assertIs(is_tried(("try", [], (INNER, thing))), False, repr(thing))
            self.assertIs(is_tried(("loop", [thing])), False, repr(thing))

    def test_tries_are_no_statements_of_programs(self):
        for one in TRIES:
            self.assertEqual(program_caught({"main": ([], [one], "p")}), ("BadStatement", "main", (0,)))


class Made(unittest.TestCase):

    def test_wrong(self):
        for functions in (None, True, 0, "main", [], (), {}, set(), object(), {"f": ([], [], "p")}, {"main": ([], [])},
                          {"main": (["a"], [], "p")}, {"main": ([], None, "p")}, {"main": ([], [], "P")}, Tried(EMPTY),
                          {"main": ([], [], "p"), "F": ([], [], "p")}, {"main": ([], [], "p"), "f": (["a", "a"], [], "p")},
                          {"main": ([], [], "p"), "f": (["a", "b", "c"], [], "p")}, {"main": [[], [], "p"]}, {1: ([], [], "p")}):
            self.assertEqual(caught(functions), ("Wrong", 0), repr(functions))
        for thing in (None, EMPTY, Program(EMPTY), Tried, 0, [], Trying(Tried(EMPTY))):
            with self.assertRaises(Wrong) as held:
                Trying(thing)
            self.assertEqual(held.exception.place, 0)

    def test_wrong_ahead_of_bad_statements(self):
        self.assertEqual(caught({"main": (["a"], [5], "p")}), ("Wrong", 0))

    def test_bad_statements(self):
        for item in (None, 5, "raise", ["raise"], ("raise", 1), ("try", []), ("try", [], 5), ("rest",), ("jump", "m"),
                     ("mark", "m", [], []), ("call", "p", "f", ()), ("call", "p", "main", ()), ("call", "p", "g", ("p",))):
            for body, address in (([item], (0,)), ([INNER, item, 5], (1,)), ([("try", [INNER, item], [5])], (0, 0, 1)),
                                  ([("try", [INNER], [item])], (0, 1, 0)), ([("loop", [("try", [], [INNER, item])])], (0, 0, 0, 1, 1))):
                self.assertEqual(caught({"main": ([], body, "p"), "g": ([], [], "p")}), ("BadStatement", "main", address), repr(body))

    def test_least_function(self):
        functions = {"main": ([], [5], "p"), "b": ([], [INNER, ("try", [5], [])], "p"), "a": ([], [], "p")}
        self.assertEqual(caught(functions), ("BadStatement", "b", (1, 0, 0)))

    def test_bodies_of_what_is_no_statement(self):
        self.assertEqual(caught({"main": ([], [("try", [5], 5)], "p")}), ("BadStatement", "main", (0,)))

    def test_calls(self):
        self.assertIsNone(caught({"main": ([], [("try", [("call", "p", "f", ["p", "q"])], [])], "p"), "f": (("a", "b"), (), "a")}))


class Told(unittest.TestCase):

    def setUp(self):
        self.body = (("try", (("call", "q", "f", ["p", "r"]), ("either", ((), (("raise",),)))), [("try", (), [("use", "s")])]),)
        self.tried = Tried({"main": ((), self.body, "p"), "f": (("b", "a"), (), "c")})

    def test_functions(self):
        body = [("try", [("call", "q", "f", ("p", "r")), ("either", [[], [("raise",)]])], [("try", [], [("use", "s")])])]
        self.assertEqual(self.tried.functions(), {"f": (["b", "a"], [], "c"), "main": ([], body, "p")})
        self.assertEqual(list(self.tried.functions()), ["f", "main"])
        self.assertEqual([self.tried.parameters("f"), self.tried.parameters("main")], [["b", "a"], []])
        self.assertEqual([self.tried.result("f"), self.tried.result("main")], ["c", "p"])
        self.assertEqual([self.tried.names("f"), self.tried.names("main")], [["a", "b", "c"], ["p", "q", "r", "s"]])

    def test_unknown(self):
        for ask in (self.tried.parameters, self.tried.result, self.tried.names):
            for name in ("g", "mains"):
                with self.assertRaises(Unknown) as held:
                    ask(name)
                self.assertIs(held.exception.function, name)

    def test_places(self):
        inner = [(0,), (0, 0, 0), (0, 0, 1), (0, 0, 1, 1, 0), (0, 1, 0), (0, 1, 0, 1, 0), (1,)]
        self.assertEqual(self.tried.places(), [("f", (0,))] + [("main", address) for address in inner])
        self.assertEqual(self.tried.statement(("main", (0, 0, 0))), ("call", "q", "f", ("p", "r")))
        self.assertEqual(self.tried.statement(("main", (0, 0, 1, 1, 0))), ("raise",))
        self.assertEqual(self.tried.statement(("main", (0, 1, 0))), ("try", [], [("use", "s")]))
        self.assertEqual(self.tried.statement(("main", (0,))), self.tried.functions()["main"][1][0])
        self.assertIsNone(self.tried.statement(("main", (1,))))
        self.assertIsNone(self.tried.statement(("f", (0,))))

    def test_new_lists(self):
        expected = copy.deepcopy(self.tried.functions())
        told = self.tried.functions()
        told["main"][1][0][1].clear()
        told["f"][0].clear()
        told.clear()
        self.tried.names("f").clear()
        self.tried.parameters("f").clear()
        self.tried.places().clear()
        self.tried.statement(("main", (0,)))[1].clear()
        self.assertEqual(self.tried.functions(), expected)
        self.assertEqual(len(self.tried.places()), 8)

    def test_copies(self):
        body, parameters = [INNER], ["a"]
        functions = {"main": ([], [("try", body, [])], "p"), "f": (parameters, body, "b")}
        tried = Tried(functions)
        expected = copy.deepcopy(tried.functions())
        body.append(5)
        parameters.append("z")
        functions.clear()
        self.assertEqual(tried.functions(), expected)

    def test_equal(self):
        self.assertTrue(Tried(TWICE) == Tried(TWICE))
        self.assertTrue(self.tried == Tried(self.tried.functions()))
        for other in (Tried(SPREAD), Tried(EMPTY), TWICE, None, 0, "", Trying(Tried(TWICE))):
            self.assertIs(Tried(TWICE) == other, False)
            self.assertIs(Tried(TWICE) != other, True)
        self.assertIs(Tried(EMPTY) == Program(EMPTY), False)
        self.assertIs(Program(EMPTY) == Tried(EMPTY), False)


class Steps(unittest.TestCase):

    def done(self, tried, run):
        trying = Trying(tried)
        for data in run:
            trying.step(data)
        return trying

    def test_begin(self):
        trying = Trying(Tried(TWICE))
        self.assertEqual([trying.here(), trying.is_over(), trying.fallen, trying.wanted(), len(trying)],
                         [("main", (0,)), False, False, [GO], 0])
        self.assertEqual([trying.calls(), trying.things(), trying.faults(), trying.run(), trying.opened()],
                         [[(("main", (0,)), {"p": None})], [], [], [], []])

    def test_tries_open_and_close(self):
        trying = Trying(Tried(TWICE))
        opened = []
        for data in (GO, GO, GO, ("body", 1), GO):
            trying.step(data)
            opened.append(trying.opened())
        outer, inner = (0, (0,)), (0, (0, 0, 0))
        self.assertEqual(opened, [[outer], [inner, outer], [outer], [], []])
        self.assertIs(trying.is_over(), True)
        self.assertEqual([trying.here(), trying.wanted(), trying.calls()], [None, [], []])

    def test_raise_in_the_same_call(self):
        trying = self.done(main([("try", [("raise",)], [("get", "p"), ("free", "p")]), ("clear", "p")]), [GO])
        self.assertEqual(trying.step(GO), [])
        self.assertEqual([trying.here(), trying.opened()], [("main", (0, 1, 0)), []])
        for expected in (("main", (0, 1, 1)), ("main", (1,)), ("main", (2,))):
            trying.step(GO)
            self.assertEqual(trying.here(), expected)

    def test_raise_to_an_empty_body(self):
        trying = self.done(main([("try", [("try", [("raise",)], [])], []), ("clear", "p")]), [GO, GO, GO])
        self.assertEqual([trying.here(), trying.opened()], [("main", (1,)), []])
        trying = self.done(main([("loop", [("try", [("raise",)], [])])]), [("body", 0), GO, GO])
        self.assertEqual([trying.here(), trying.opened()], [("main", (0,)), []])

    def test_raise_within_the_other_body(self):
        """The try is closed by then: it is the one around it that counts."""
        trying = self.done(main([("try", [("try", [("raise",)], [("raise",)])], [("get", "p")])]), [GO, GO, GO])
        self.assertEqual([trying.here(), trying.opened()], [("main", (0, 0, 0, 1, 0)), [(0, (0,))]])
        trying.step(GO)
        self.assertEqual([trying.here(), trying.opened(), trying.faults()], [("main", (0, 1, 0)), [], []])

    def test_empty_bodies(self):
        trying = self.done(main([("try", [], [("raise",)]), ("try", [], [])]), [GO])
        self.assertEqual([trying.here(), trying.opened()], [("main", (1,)), []])
        trying.step(GO)
        self.assertEqual([trying.here(), trying.faults()], [("main", (2,)), []])

    def test_raise_with_none_open(self):
        for body, run, place in (([("raise",)], [GO], ("main", (0,))), ([("try", [], []), ("raise",)], [GO, GO], ("main", (1,))),
                                 ([("try", [("raise",)], [("raise",)])], [GO, GO, GO], ("main", (0, 1, 0)))):
            tried = main([("get", "p")] + body)
            trying = self.done(tried, [GO] + run[:-1])
            ahead = [trying.calls(), trying.things()]
            place = (place[0], (place[1][0] + 1,) + place[1][1:])
            self.assertEqual(trying.step(run[-1]), [("fall",) + place + (None,)])
            self.assertEqual([trying.fallen, trying.is_over(), trying.here(), trying.wanted()], [True, True, None, []])
            self.assertEqual([trying.calls(), trying.things(), trying.opened()], ahead + [[]])
            self.assertEqual(trying["p"], 0)
            self.assertEqual(trying.faults(), [(len(run), "fall") + place + (None,)])

    def test_calls_are_cut_off(self):
        """What they hold is lost, at the place of the try statement; what names hold does not change."""
        tried = main([("get", "q"), ("try", [("call", "p", "f", ("q",))], [("use", "q")])],
                     f=(["a"], [("get", "b"), ("call", "c", "g", ())], "a"), g=([], [("get", "x"), ("get", "y"), ("raise",)], "x"))
        trying = self.done(tried, [GO] * 7)
        self.assertEqual(trying.step(GO), [("lost", "main", (1,), 1), ("lost", "main", (1,), 2), ("lost", "main", (1,), 3)])
        self.assertEqual(trying.calls(), [(("main", (1, 1, 0)), {"p": None, "q": 0})])
        self.assertEqual([trying.things(), trying.opened(), trying.fallen], [["live"] * 4, [], False])
        self.assertEqual([fault[0] for fault in trying.faults()], [7, 7, 7])

    def test_calls_that_end(self):
        """When a call ends none of its tries is open; those of calls that wait are."""
        tried = main([("try", [("call", "p", "f", ()), ("raise",)], [])], f=([], [("try", [], []), ("try", [("clear", "a")], [])], "a"))
        trying = self.done(tried, [GO, GO, GO, GO])
        self.assertEqual(trying.opened(), [(1, (1,)), (0, (0,))])
        trying.step(GO)
        self.assertEqual(trying.opened(), [(0, (0,))])
        trying.step(GO)
        self.assertEqual([trying.here(), trying.opened()], [("main", (0, 0, 1)), [(0, (0,))]])

    def test_other_faults(self):
        tried = main([("get", "p"), ("free", "p"), ("use", "p"), ("free", "p"), ("get", "p"), ("clear", "p"), ("get", "p")])
        trying = Trying(tried)
        self.assertEqual([trying.step(GO) for _ in range(8)],
                         [[], [], [("gone", "main", (2,), 0)], [("gone", "main", (3,), 0)], [], [("lost", "main", (5,), 1)], [],
                          [("lost", "main", (7,), 2)]])
        self.assertEqual([trying.things(), trying.fallen, trying.is_over()], [["gone", "live", "live"], False, True])

    def test_data(self):
        tried = main([("either", [[], [], []]), ("loop", [("clear", "p")]), ("try", [], [])])
        trying = Trying(tried)
        for run, wanted in (([], [("body", 0), ("body", 1), ("body", 2)]), ([("body", 2)], [("body", 0), GO]), ([GO], [GO]), ([GO], [GO])):
            for data in run:
                trying.step(data)
            self.assertEqual(trying.wanted(), wanted)
            for data in AWKWARD + [("body", 3), ("body", True), ("body", False), ("body", -1), ("body",), ("body", 0, 0), ("go", ()),
                                   ("jump", ()), ("break", ()), ("within", ()), ["go"], ["body", 0], ("body", "0"), ("raise",)]:
                before = trying.run()
                self.assertRaises(Unfit, lambda: trying.step(data))
                self.assertEqual(trying.run(), before)
        trying.step(GO)
        for data in (GO, None, ("body", 0), []):
            self.assertRaises(Over, lambda: trying.step(data))
        self.assertEqual([len(trying), trying.run()], [4, [("body", 2), GO, GO, GO]])

    def test_names(self):
        tried = main([("get", "p"), ("call", "q", "f", ("p",))], f=(["a"], [("take", "b", "a")], "b"))
        trying = self.done(tried, [GO, GO])
        self.assertEqual([trying["a"], trying["b"]], [0, None])
        for name in ("p", "q", "zz", "", None, 0, (), [], True, {}, "main", b"a"):
            with self.assertRaises(NoName) as held:
                trying[name]
            self.assertIs(held.exception.name, name)
        for _ in range(3):
            trying.step(GO)
        self.assertRaises(NoName, lambda: trying["p"])

    def test_new_lists(self):
        trying = self.done(Tried(DEEP_TRIED), [GO, GO, GO])
        for ask in (trying.calls, trying.things, trying.faults, trying.run, trying.wanted, trying.opened):
            told = copy.deepcopy(ask())
            found = ask()
            if found and isinstance(found[0], tuple) and isinstance(found[0][-1], dict):
                found[0][1].clear()
            found.append(5)
            self.assertEqual(ask(), told)
            self.assertIsNot(ask(), ask())
        trying.step(GO).append(5)
        self.assertNotIn(5, trying.faults())

    def test_not_iterated_over(self):
        self.assertRaises(TypeError, lambda: list(Trying(Tried(TWICE))))


class AgainstTheReference(unittest.TestCase):

    def test_by_chance(self):
        seen = set()
        for number, tried in enumerate(trieds() + [Tried(NEVER)] + [tried_program(seed) for seed in range(150)]):
            for seed in range(4):
                chance = random.Random(1000 * number + seed)
                one, other = Trying(tried), TriedReference(tried)
                for _ in range(50):
                    self.compare(one, other)
                    if other.over:
                        break
                    data = chance.choice(one.wanted())
                    faults = one.step(data)
                    self.assertEqual(faults, sorted(other.step(data)))
                    seen.update(fault[0] for fault in faults)
                seen.add(other.highest)
        self.assertLessEqual({"gone", "lost", "fall", 0, 1, 2, 3, 4}, seen)

    def compare(self, one, other):
        self.assertEqual([one.wanted(), one.here(), one.is_over(), one.fallen], [sorted(other.wanted()), other.here(), other.over, other.fell])
        self.assertEqual([one.calls(), one.things(), one.opened()], [other.told_calls(), other.things, other.open[::-1]])
        self.assertEqual([one.faults(), len(one)], [other.faults, other.many])
        for place, held in one.calls()[-1:]:
            self.assertEqual(list(held), sorted(held))
            self.assertEqual({name: one[name] for name in held}, held)


class Errors(unittest.TestCase):

    def test_classes(self):
        for error, act in ((Wrong, lambda: Tried(5)), (BadStatement, lambda: main([5])), (Unknown, lambda: Tried(EMPTY).names("f")),
                           (Unfit, lambda: Trying(Tried(EMPTY)).step(5)), (NoName, lambda: Trying(Tried(EMPTY))["q"])):
            with self.assertRaises(error) as held:
                act()
            self.assertIsInstance(held.exception, BackError)


if __name__ == "__main__":
    unittest.main()
