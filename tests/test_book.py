"""[90], with [4] and [14]: Book."""

import copy
import random
import unittest

from landedback.book import Book
from landedback.errors import BadCells, BadStatement, BackError, Full, NoDeed, NoEntry, Nothing, Refused, Wrong
from landedback.programs import Program
from tests.reference import CHAIN, PLAN
from tests.test_statements import AWKWARD

P = ("main", "p")
EMPTY = {"main": ([], [], "p")}


def made():
    return Program(PLAN, kept=[P], shut=[("main", (2,))])


def books():
    return [Book(Program(functions)) for functions in (PLAN, CHAIN, EMPTY)] + [Book(made())]


def state(book):
    """All that a Book tells."""
    many = len(book)
    return [book.program(), book.log(), many, [book.past(at) for at in range(many + 1)]]


DEEDS = [
    ("body", "main", [], [("use", "p")], "q"), ("body", "f", ["a"], [("call", "b", "f", ("a",))], "b"), ("drop", "f"),
    ("keep", "main", "p"), ("loose", "main", "p"), ("shut", "main", (0,)), ("open", "main", (0,)),
    ("shut", "main", (1, 1, 0)), ("body", "g", (), (), "x"), ("drop", "main"),
]


def chance_deed(chance, program):
    """A deed by chance, fit or not."""
    functions = program.functions()
    function = chance.choice(list(functions) + ["f", "g"])
    names = program.names(function) if function in functions else []
    word = chance.choice(("body", "drop", "keep", "keep", "loose", "shut", "shut", "open"))
    if word == "body":
        body = chance.choice(([], [("get", "p")], [("call", "p", "f", ())], [("call", "p", "g", ("p",))], [5],
                              [("mark", "a", [], []), ("arm", "b")], [("mark", "c", [("jump", "d")], [("use", "q")])]))
        return (word, function, chance.choice(([], [], ["p"], ("a", "b"))), body, chance.choice("pq"))
    if word == "drop":
        return (word, function)
    if word in ("keep", "loose"):
        return (word, function, chance.choice(names + ["p", "zz"]))
    return (word, function, chance.choice(((0,), (1,), (0, 0, 0), (2,))))


class Deeds(unittest.TestCase):

    def test_bodies(self):
        book = Book(made())
        self.assertIsNone(book.do(("body", "f", ["a"], (("get", "b"),), "b")))
        expected = Program({**PLAN, "f": (["a"], [("get", "b")], "b")}, kept=[P], shut=[("main", (2,))])
        self.assertEqual(book.program(), expected)
        # What was kept and shut of the function is so no more.
        book.do(("body", "main", (), [("call", "q", "f", ["p"])], "p"))
        expected = Program({"main": ([], [("call", "q", "f", ("p",))], "p"), "f": (["a"], [("get", "b")], "b")})
        self.assertEqual(book.program(), expected)
        self.assertEqual(book.log(), [("body", "f", ["a"], [("get", "b")], "b"), ("body", "main", [], [("call", "q", "f", ("p",))], "p")])

    def test_others_stay_as_they_are(self):
        book = Book(Program(CHAIN, kept=[("f", "y"), ("g", "u"), ("main", "p")], shut=[("f", (0,)), ("g", (1,)), ("main", (1,))]))
        book.do(("body", "f", ["x"], [], "y"))
        self.assertEqual([book.program().kept(), book.program().shut()], [[("g", "u"), ("main", "p")], [("g", (1,)), ("main", (1,))]])
        book.do(("drop", "g"))
        self.assertEqual([book.program().kept(), book.program().shut()], [[("main", "p")], [("main", (1,))]])
        self.assertEqual(list(book.program().functions()), ["f", "main"])

    def test_kept_and_shut(self):
        book = Book(Program(PLAN))
        for deed, kept, shut in ((("keep", "main", "p"), [P], []), (("shut", "main", (3, 0, 0)), [P], [("main", (3, 0, 0))]),
                                 (("shut", "main", (0,)), [P], [("main", (0,)), ("main", (3, 0, 0))]),
                                 (("loose", "main", "p"), [], [("main", (0,)), ("main", (3, 0, 0))]),
                                 (("open", "main", (3, 0, 0)), [], [("main", (0,))])):
            self.assertIsNone(book.do(deed))
            self.assertEqual(book.program(), Program(PLAN, kept=kept, shut=shut))
            self.assertEqual(book.log()[-1], deed)

    def test_no_deeds(self):
        wrong = AWKWARD + [
            ["drop", "f"], ("drop",), ("drop", "f", "f"), ("drop", "F"), ("drop", 0), ("drop", ["f"]), ("dropped", "f"), ("drop", ""),
            ("keep", "main"), ("keep", "main", "p", "p"), ("keep", "main", "P"), ("keep", "", "p"), ("keep", P), ("keep", "main", (0,)),
            ("keep", "main", None), ("loose", "main", ["p"]), ("loose", "main", True), ("loose",), ("shut", "main", "p"),
            ("shut", "main", 0), ("shut", "main", ()), ("shut", "main", (0, 0)), ("shut", "main", [0]), ("shut", "main", (-1,)),
            ("shut", "main", (True,)), ("shut", "main", (False,)), ("shut", "main"), ("open", "main", (0, True, 0)), ("open", "main", ("0",)),
            ("open", 0, (0,)), ("open", "main", (0,), 0), ("body", "f"), ("body", "f", [], []), ("body", "f", [], [], "p", "p"),
            ("body", "f", ["a", "b", "c"], [], "p"), ("body", "f", ["a", "a"], [], "p"), ("body", "f", "ab", [], "p"),
            ("body", "f", None, [], "p"), ("body", "f", [], None, "p"), ("body", "f", [], "get p", "p"), ("body", "f", [], {}, "p"),
            ("body", "f", [], [], "P"), ("body", "f", [], [], None), ("body", "f", [], [], ["p"]), ("body", "f", [1], [], "p"),
            ("body", "F", [], [], "p"), ("body", 0, [], [], "p"), ("body", "f", {}, [], "p"), ("body", ("f", [], [], "p")),
            ("get", "p"), ("go",), ("back",), ("again",),
        ]
        for book in books():
            before = state(book)
            for thing in wrong:
                with self.assertRaises(NoDeed, msg=repr(thing)):
                    book.do(thing)
            self.assertEqual(state(book), before)

    def refused(self, book, deed):
        before = state(book)
        with self.assertRaises(Refused) as held:
            book.do(deed)
        self.assertIs(held.exception.deed, deed)
        self.assertEqual(state(book), before)
        return held.exception

    def test_refused_without_a_cause(self):
        book = Book(made())
        for deed in (("drop", "f"), ("keep", "f", "p"), ("loose", "f", "p"), ("shut", "f", (0,)), ("open", "f", (0,)),
                     ("keep", "main", "q"), ("loose", "main", "q"), ("shut", "main", (99,)), ("shut", "main", (1, 0, 0)),
                     ("open", "main", (2, 0, 0)), ("keep", "main", "p"), ("shut", "main", (2,)), ("open", "main", (1,)),
                     ("open", "main", (0,))):
            error = self.refused(book, deed)
            self.assertIsNone(error.why)
            self.assertIsNone(error.__cause__)
        self.assertIsNone(self.refused(Book(Program(PLAN)), ("loose", "main", "p")).why)

    def test_refused_by_program(self):
        book = Book(Program(CHAIN))
        for deed, why in ((("drop", "main"), ("Wrong", 0)), (("drop", "f"), ("BadStatement", "main", (1,))),
                          (("drop", "g"), ("BadStatement", "f", (0, 0, 0))),
                          (("body", "main", ["a"], [], "p"), ("Wrong", 0)), (("body", "main", ("a", "b"), [], "p"), ("Wrong", 0)),
                          (("body", "f", [], [], "y"), ("BadStatement", "main", (1,))),
                          (("body", "f", ["x"], [("rest",), 5], "y"), ("BadStatement", "f", (1,))),
                          (("body", "h", [], [("call", "p", "k", ())], "p"), ("BadStatement", "h", (0,))),
                          (("body", "h", [], [("raise",)], "p"), ("BadStatement", "h", (0,))),
                          (("body", "h", [], [("move", "o", "r")], "p"), ("BadCells", 4))):
            error = self.refused(book, deed)
            self.assertIsInstance(error.why, BackError)
            self.assertEqual((error.why.__class__.__name__,) + tuple(vars(error.why).values()), why)
            self.assertIs(error.__cause__, error.why)

    def test_main_may_be_changed(self):
        book = Book(Program(CHAIN))
        book.do(("body", "main", [], [], "p"))
        book.do(("drop", "f"))
        book.do(("drop", "g"))
        self.assertEqual(book.program(), Program(EMPTY))
        self.assertIsInstance(self.refused(book, ("drop", "main")).why, Wrong)

    def test_copies(self):
        inner, names, parameters = [("get", "p")], ["a"], ["a"]
        deed = ("body", "f", parameters, [("loop", inner), ("call", "p", "f", names)], "p")
        book = Book(Program(PLAN))
        book.do(deed)
        before = copy.deepcopy(state(book))
        inner.append(5)
        names.append("b")
        parameters.append("c")
        book.log()[0][2].append("z")
        book.log()[0][3][0][1].clear()
        book.log().clear()
        self.assertEqual(state(book), before)
        self.assertEqual(book.log(), [("body", "f", ["a"], [("loop", [("get", "p")]), ("call", "p", "f", ("a",))], "p")])
        told = book.back()
        told[3][0][1].append(7)
        told[2].clear()
        again = book.again()
        self.assertEqual(again, before[1][0])
        again[3].clear()
        self.assertEqual(state(book), before)

    def test_wrong(self):
        for thing in (None, PLAN, 0, [], Book, Book(made()), "main", True):
            with self.assertRaises(Wrong) as held:
                Book(thing)
            self.assertEqual(held.exception.place, 0)


class Logs(unittest.TestCase):

    def test_sixty(self):
        book = Book(Program(PLAN))
        for at in range(60):
            book.do(("keep" if at % 2 == 0 else "loose", "main", "p"))
            self.assertEqual(len(book), at + 1)
        before = state(book)
        for deed in (("keep", "main", "p"), ("drop", "f"), ("drop", "main"), ("body", "f", [], [5], "p")):
            with self.assertRaises(Full) as held:
                book.do(deed)
            self.assertEqual(held.exception.limit, 60)
        for thing in (None, ("drop",), ("keep", "main", 0)):
            self.assertRaises(NoDeed, lambda: book.do(thing))
        self.assertEqual(state(book), before)
        self.assertEqual(book.back(), ("loose", "main", "p"))
        book.do(("shut", "main", (0,)))
        self.assertRaises(Full, lambda: book.do(("open", "main", (0,))))
        self.assertEqual([len(book), len(book.log())], [60, 60])

    def test_back_and_again(self):
        book = Book(Program(PLAN))
        self.assertRaises(Nothing, book.back)
        self.assertRaises(Nothing, book.again)
        deeds = [("keep", "main", "p"), ("shut", "main", (0,)), ("body", "f", [], [], "x"), ("drop", "f")]
        programs = [book.program()]
        for deed in deeds:
            book.do(deed)
            programs.append(book.program())
        for _ in range(2):
            for at in (3, 2, 1, 0):
                self.assertEqual(book.back(), deeds[at])
                self.assertEqual([book.program(), book.log(), len(book)], [programs[at], deeds[:at], at])
            self.assertRaises(Nothing, book.back)
            for at in range(4):
                self.assertEqual(book.again(), deeds[at])
                self.assertEqual([book.program(), book.log(), len(book)], [programs[at + 1], deeds[:at + 1], at + 1])
            self.assertRaises(Nothing, book.again)

    def test_none_to_do_again_once_a_deed_is_done(self):
        book = Book(Program(PLAN))
        book.do(("keep", "main", "p"))
        book.do(("shut", "main", (0,)))
        book.back()
        book.back()
        book.do(("shut", "main", (1,)))
        self.assertRaises(Nothing, book.again)
        self.assertEqual(book.log(), [("shut", "main", (1,))])

    def test_refused_deeds_leave_it(self):
        book = Book(Program(PLAN))
        book.do(("keep", "main", "p"))
        book.back()
        for deed in (None, ("loose", "main", "p"), ("drop", "main")):
            self.assertRaises(BackError, lambda: book.do(deed))
        self.assertEqual(book.again(), ("keep", "main", "p"))
        self.assertRaises(BackError, lambda: book.do(("keep", "main", "p")))
        self.assertEqual(book.back(), ("keep", "main", "p"))
        self.assertEqual(book.again(), ("keep", "main", "p"))

    def test_past(self):
        book = Book(made())
        deeds = [("loose", "main", "p"), ("open", "main", (2,)), ("keep", "main", "p")]
        for deed in deeds:
            book.do(deed)
        self.assertEqual(book.past(0), made())
        self.assertEqual([book.past(many).kept() for many in range(4)], [[P], [], [], [P]])
        self.assertEqual([book.past(many).shut() for many in range(4)], [[("main", (2,))]] * 2 + [[]] * 2)
        for many in (4, 5, 10 ** 30):
            with self.assertRaises(NoEntry) as held:
                book.past(many)
            self.assertEqual(held.exception.many, many)
        book.back()
        self.assertRaises(NoEntry, lambda: book.past(3))

    def test_copied(self):
        book = Book(Program(PLAN))
        for deed in (("keep", "main", "p"), ("shut", "main", (0,)), ("shut", "main", (1,))):
            book.do(deed)
        book.back()
        other = book.copied()
        self.assertIsInstance(other, Book)
        self.assertTrue(other == book)
        self.assertEqual(state(other), state(book))
        self.assertEqual(other.again(), ("shut", "main", (1,)))
        self.assertEqual(len(book), 2)
        self.assertEqual(book.again(), ("shut", "main", (1,)))
        book.back()
        book.do(("loose", "main", "p"))
        self.assertEqual([len(other), other.log()[-1]], [3, ("shut", "main", (1,))])
        self.assertRaises(Nothing, other.again)

    def test_equal(self):
        one, other = Book(Program(PLAN)), Book(Program(copy.deepcopy(PLAN)))
        self.assertTrue(one == other)
        one.do(("keep", "main", "p"))
        self.assertFalse(one == other)
        other.do(("keep", "main", "p"))
        self.assertTrue(one == other)
        # What is to be done again is no part of it.
        other.do(("loose", "main", "p"))
        other.back()
        self.assertTrue(one == other)
        # The same Program now, made of another one, or by other deeds.
        self.assertFalse(one == Book(Program(PLAN, kept=[P])))
        third = Book(Program(PLAN))
        for deed in (("shut", "main", (0,)), ("keep", "main", "p"), ("open", "main", (0,))):
            third.do(deed)
        self.assertEqual(third.program(), one.program())
        self.assertFalse(one == third)
        for thing in (None, Program(PLAN), [], 0, "", one.log()):
            self.assertIs(one == thing, False)

    def test_bodies_as_lists_and_tuples(self):
        one, other = Book(Program(PLAN)), Book(Program(PLAN))
        one.do(("body", "f", ["a"], [("loop", [("call", "b", "f", ["a"])])], "a"))
        other.do(("body", "f", ("a",), (("loop", (("call", "b", "f", ("a",)),)),), "a"))
        self.assertTrue(one == other)
        self.assertEqual(one.log(), other.log())


class Leads(unittest.TestCase):

    def test_the_log_leads_to_the_program(self):
        """[14]."""
        seen = set()
        for seed in range(60):
            chance = random.Random(seed)
            first = chance.choice((Program(PLAN), made(), Program(CHAIN), Program(EMPTY)))
            book = Book(first)
            for _ in range(60):
                self.do_something(chance, book, seen)
                anew = Book(first)
                for deed in book.log():
                    anew.do(deed)
                self.assertEqual(anew.program(), book.program())
                self.assertTrue(anew == book)
                self.assertEqual([anew.past(many) for many in range(len(book) + 1)], [book.past(many) for many in range(len(book) + 1)])
        self.assertLessEqual({"Wrong", "BadStatement", "BadCells", "None", "done", "nothing", "back", "again"}, seen)

    def do_something(self, chance, book, seen):
        try:
            if chance.random() < 0.3:
                act = chance.choice(("back", "again"))
                book.back() if act == "back" else book.again()
                seen.add(act)
                return
            book.do(chance_deed(chance, book.program()))
            seen.add("done")
        except Refused as error:
            seen.add("None" if error.why is None else error.why.__class__.__name__)
        except Nothing:
            seen.add("nothing")

    def test_as_by_program(self):
        """A deed leads to the Program that is made of the same parts."""
        for seed in range(60):
            chance = random.Random(seed)
            book = Book(chance.choice((Program(PLAN), made(), Program(CHAIN))))
            for _ in range(30):
                ahead = book.program()
                deed = chance_deed(chance, ahead)
                try:
                    book.do(deed)
                except Refused as error:
                    if deed[0] in ("body", "drop") and error.why is not None:
                        self.assertIsInstance(error.why, (Wrong, BadStatement, BadCells))
                    continue
                functions, kept, shut = ahead.functions(), ahead.kept(), ahead.shut()
                if deed[0] in ("body", "drop"):
                    kept = [item for item in kept if item[0] != deed[1]]
                    shut = [item for item in shut if item[0] != deed[1]]
                    functions.pop(deed[1], None)
                    if deed[0] == "body":
                        functions[deed[1]] = deed[2:]
                elif deed[0] in ("keep", "loose"):
                    kept = sorted(set(kept) ^ {deed[1:]})
                else:
                    shut = sorted(set(shut) ^ {deed[1:]})
                self.assertEqual(book.program(), Program(functions, kept=kept, shut=shut))


if __name__ == "__main__":
    unittest.main()
