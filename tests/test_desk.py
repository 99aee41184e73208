"""[92], with [3], [4] and [14]: Desk."""

import random
import unittest

from landedback.book import Book
from landedback.desk import Desk
from landedback.errors import BackError, Faulty, Full, NoCommand, Nothing, Refused, TooMany, Unsteady, Wrong
from landedback.faultruns import fewest
from landedback.notation import show_deed, show_log, show_program
from landedback.programs import Program
from landedback.steady import must_keep
from landedback.tables import Table
from landedback.told import falls
from tests.reference import CHAIN, PLAN, STALE
from tests.shapes import rich_program
from tests.steadies import steady_program
from tests.test_book import chance_deed, made
from tests.test_notation import Deeds
from tests.test_statements import AWKWARD
from tests.test_steady import EMPTY, SHARED, TWO

PLAN_TEXT = "main: [clear p; mark m [] [free p; clear p]; get p; either [jump m] []; free p; clear p] -> p\n"


def main(body, result="p", **others):
    return Program({"main": ([], body, result), **others})


def state(desk):
    return [desk.execute("program"), desk.execute("log")]


class Lines(unittest.TestCase):

    def test_example(self):
        desk = Desk(Program(PLAN))
        self.assertEqual([desk.execute(line) for line in ("safe", "must", "keep main p", "safe", "back")],
                         ["lost main 1", "main p", "-", "safe", "keep main p"])
        self.assertEqual(desk.execute("program"), PLAN_TEXT)

    def test_deeds(self):
        desk = Desk(Program(PLAN))
        lines = ["keep main p", "shut main 3.0.0", "body f a: [use a] -> a", "keep f a", "loose main p", "open main 3.0.0", "drop f",
                 "body main: [] -> x", "shut main 0"]
        for at, line in enumerate(lines):
            self.assertEqual(desk.execute(line), "-")
            self.assertEqual(desk.execute("log"), "".join(one + "\n" for one in lines[:at + 1]))
        self.assertEqual(desk.execute("program"), "main: [] -> x\nshut main 0\n")

    def test_back_and_again(self):
        desk = Desk(Program(PLAN))
        for line in ("back", "again"):
            self.assertRaises(Nothing, lambda: desk.execute(line))
        lines = ["keep main p", "body f a: [loop [use a]] -> a", "drop f"]
        for line in lines:
            desk.execute(line)
        for line in lines[::-1]:
            self.assertEqual(desk.execute("back"), line)
        self.assertRaises(Nothing, lambda: desk.execute("back"))
        self.assertEqual(state(desk), [PLAN_TEXT, ""])
        for line in lines:
            self.assertEqual(desk.execute("again"), line)
        self.assertRaises(Nothing, lambda: desk.execute("again"))
        self.assertEqual(state(desk), [PLAN_TEXT + "keep main p\n", "keep main p\nbody f a: [loop [use a]] -> a\ndrop f\n"])

    def test_safe(self):
        for program, told in ((main([]), "safe"), (Program(PLAN), "lost main 1"), (main([("jump", "m")]), "fall main 0"),
                              (main([("get", "p"), ("free", "p"), ("use", "p"), ("get", "p")]), "gone main 2"),
                              (main([("loop", [("either", [[], [("jump", "m")]])])]), "fall main 0.0.0.1.0")):
            self.assertEqual(Desk(program).execute("safe"), told)

    def test_fewest(self):
        for program, told in ((main([]), "-"), (Program(PLAN), "5"), (main([("jump", "m")]), "1"), (main([("rest",)] * 11 + [("jump", "m")]), "12")):
            self.assertEqual(Desk(program).execute("fewest"), told)

    def test_falls(self):
        for program, told in ((main([]), "-"), (Program(PLAN), "-"), (main([("jump", "m")]), "main 0"),
                              (main([("either", [[("jump", "m")], [("call", "p", "f", ())]])], f=([], [("rest",), ("jump", "n")], "x")),
                               "f 1, main 0.0.0")):
            self.assertEqual(Desk(program).execute("falls"), told)

    def test_must(self):
        for program, told in ((main([]), "-"), (Program(PLAN), "main p"), (Program(TWO), "main p, main q")):
            self.assertEqual(Desk(program).execute("must"), told)

    def test_what_the_functions_tell(self):
        seen = set()
        for seed in range(40):
            for program in (rich_program(seed), steady_program(seed)):
                desk = Desk(program)
                self.assertEqual(desk.execute("program"), show_program(program))
                try:
                    faults = Table(program).faults()
                except TooMany:
                    for line in ("safe", "fewest", "falls"):
                        self.assertRaises(TooMany, lambda: desk.execute(line))
                    continue
                address = ".".join(map(str, faults[0][2])) if faults else ""
                self.assertEqual(desk.execute("safe"), f"{faults[0][0]} {faults[0][1]} {address}" if faults else "safe")
                self.assertEqual(desk.execute("fewest"), str(fewest(program)) if faults else "-")
                places = [f"{function} {'.'.join(map(str, address))}" for function, address in falls(program)]
                self.assertEqual(desk.execute("falls"), ", ".join(places) or "-")
                try:
                    names = must_keep(program)
                except BackError as error:
                    with self.assertRaises(error.__class__) as held:
                        desk.execute("must")
                    self.assertEqual(vars(held.exception), vars(error))
                else:
                    self.assertEqual(desk.execute("must"), ", ".join(f"{function} {name}" for function, name in names) or "-")
                seen.add((len(faults) > 0, len(places) > 1))
        self.assertEqual(len(seen), 3)


class Errors(unittest.TestCase):

    def test_wrong(self):
        for thing in (None, PLAN, 0, [], Desk, Book(made()), PLAN_TEXT, True):
            with self.assertRaises(Wrong) as held:
                Desk(thing)
            self.assertEqual(held.exception.place, 0)

    def test_no_commands(self):
        desk = Desk(made())
        before = state(desk)
        lines = ["", " ", "safe ", " safe", "Safe", "safe\n", "safe safe", "faults", "back 1", "back\n", "again ", "program p", "log\n", "undo",
                 "fewest 3", "falls main", "must keep", "must ", "keep", "keep main", "keep main p q", "keep  main p", "keep main p\n", "drop",
                 "drop main f", "shut main", "shut main p", "shut main 00", "open main 0.0", "body", "body f", "body f: []", "body f: [] -> p ",
                 "body f a b c: [] -> p", "body f: [raise] -> p", "main: [] -> p", "get p", "go", "rest", "-", "loose main", "\x00", "keep main p\r"]
        for thing in lines + [thing for thing in AWKWARD if thing != ""] + [("drop", "f"), b"safe", ["safe"], {"safe": 1}, 10 ** 30]:
            with self.assertRaises(NoCommand, msg=repr(thing)) as held:
                desk.execute(thing)
            self.assertIsInstance(held.exception, BackError)
        self.assertEqual(state(desk), before)

    def test_refused(self):
        desk = Desk(made())
        before = state(desk)
        for text, deed in Deeds.DEEDS.items():
            other = Book(made())
            try:
                other.do(deed)
            except Refused as error:
                with self.assertRaises(Refused) as held:
                    desk.execute(text)
                self.assertEqual(held.exception.deed, deed)
                self.assertEqual(held.exception.why is None, error.why is None)
                self.assertEqual(state(desk), before)
            else:
                self.assertEqual(desk.execute(text), "-")
                desk.execute("back")

    def test_full(self):
        desk = Desk(Program(PLAN))
        for _ in range(30):
            desk.execute("keep main p")
            desk.execute("loose main p")
        with self.assertRaises(Full) as held:
            desk.execute("keep main p")
        self.assertEqual(held.exception.limit, 60)
        self.assertRaises(NoCommand, lambda: desk.execute("keep main"))
        self.assertEqual(desk.execute("log"), "keep main p\nloose main p\n" * 30)

    def test_what_the_functions_raise(self):
        self.assertRaises(Unsteady, lambda: Desk(Program(SHARED)).execute("must"))
        self.assertRaises(Faulty, lambda: Desk(main([("get", "p")])).execute("must"))
        self.assertRaises(Unsteady, lambda: Desk(Program(EMPTY)).execute("must"))
        desk = Desk(main([("rest",)] * 1000))
        for line in ("safe", "fewest", "falls", "must"):
            with self.assertRaises(TooMany) as held:
                desk.execute(line)
            self.assertEqual(held.exception.limit, 1000)

    def test_questions_change_nothing(self):
        desk = Desk(Program(STALE))
        desk.execute("keep f r")
        desk.execute("back")
        before = state(desk)
        for line in ("safe", "fewest", "falls", "must", "program", "log") * 2:
            try:
                desk.execute(line)
            except BackError:
                pass
        self.assertEqual(state(desk), before)
        self.assertEqual(desk.execute("again"), "keep f r")


class Beside(unittest.TestCase):

    def test_a_book(self):
        """[14]: the desk does what its Book does."""
        for seed in range(40):
            chance = random.Random(seed)
            program = chance.choice((Program(PLAN), made(), Program(CHAIN)))
            desk, book = Desk(program), Book(program)
            for _ in range(40):
                act = chance.choice(("back", "again", "do", "do", "do"))
                deed = chance_deed(chance, book.program())
                if act == "do" and deed[0] == "body" and 5 in deed[3]:
                    # What is no statement cannot be written.
                    continue
                line = show_deed(deed) if act == "do" else act
                try:
                    told = show_deed(book.back() if act == "back" else book.again()) if act != "do" else book.do(deed) or "-"
                except BackError as error:
                    self.assertRaises(error.__class__, lambda: desk.execute(line))
                else:
                    self.assertEqual(desk.execute(line), told)
                self.assertEqual([desk.execute("program"), desk.execute("log")], [show_program(book.program()), show_log(book)])

    def test_desks_do_not_share(self):
        program = Program(PLAN)
        one, other = Desk(program), Desk(program)
        one.execute("keep main p")
        self.assertEqual([other.execute("program"), other.execute("log")], [PLAN_TEXT, ""])
        self.assertEqual(program, Program(PLAN))


if __name__ == "__main__":
    unittest.main()
