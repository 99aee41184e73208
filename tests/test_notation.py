"""[91], with [4] and [13]: statements, programs, runs, deeds and logs as texts, and back."""

import random
import unittest

from landedback.book import Book
from landedback.errors import BackError, Broken, NoText
from landedback.faultruns import fault_run
from landedback.machine import Machine
from landedback.notation import (read_deed, read_log, read_program, read_run, read_statement, show_deed, show_log, show_program,
                                 show_run, show_statement)
from landedback.programs import Program
from tests.reference import ARMED, CHAIN, PLAN, STALE, chance_program, programs
from tests.shapes import rich_program
from tests.test_book import made
from tests.test_statements import AWKWARD, NESTED, SIMPLE
from tests.test_statements import depth

READS = (read_statement, read_program, read_run, read_deed, lambda text: read_log(Program(PLAN), text))

STATEMENTS = {
    "get p": ("get", "p"), "take p q": ("take", "p", "q"), "clear p": ("clear", "p"), "use p": ("use", "p"), "free p": ("free", "p"),
    "call p f": ("call", "p", "f", ()), "call p f q": ("call", "p", "f", ("q",)), "call p f q r": ("call", "p", "f", ("q", "r")),
    "either []": ("either", [[]]), "either [jump m] []": ("either", [[("jump", "m")], []]),
    "either [] [] [rest]": ("either", [[], [], [("rest",)]]), "loop []": ("loop", []),
    "loop [use p; free p]": ("loop", [("use", "p"), ("free", "p")]), "mark m [] []": ("mark", "m", [], []),
    "mark m [get p] [free p; clear p]": ("mark", "m", [("get", "p")], [("free", "p"), ("clear", "p")]),
    "jump m": ("jump", "m"), "move m n": ("move", "m", "n"), "arm m": ("arm", "m"), "rest": ("rest",),
    "loop [loop [either [mark m [] [rest]] []]; rest]":
        ("loop", [("loop", [("either", [[("mark", "m", [], [("rest",)])], []])]), ("rest",)]),
    # names that are the notation's own words
    "get rest": ("get", "rest"), "call loop mark either get": ("call", "loop", "mark", ("either", "get")),
    "mark mark [use loop] []": ("mark", "mark", [("use", "loop")], []), "jump jump": ("jump", "jump"),
    "either [take either call; arm rest]": ("either", [[("take", "either", "call"), ("arm", "rest")]]),
    "move keep shut": ("move", "keep", "shut"), "take body go": ("take", "body", "go"),
}

WORDS = {
    "main": ([], [("mark", "loop", [("call", "keep", "keep", ("shut", "use"))], []), ("free", "body")], "rest"),
    "keep": (["either", "mark"], [("use", "either")], "keep"), "shut": ((), (("jump", "arm"),), "shut"),
}

# Each is no text of a statement, and none of what the others read.
NO_STATEMENTS = [
    "", " ", "get", "get ", " get p", "get p ", "get  p", "get p\n", "\nget p", "get\tp", "get p q", "Get p", "get P", "get p;", "get p; ",
    "get p; use p", "[get p]", "get [p]", "get abcdefghi", "get p1", "get p.", "rest ", "rest p", "rest []", "take p", "take p q r",
    "call", "call p", "call p f a b c", "call p f []", "call p f q ", "call p f  q", "call p f(q)", "either", "either ", "either[]",
    "either [] ", "either  []", "either []  []", "either [][]", "either [ ]", "either [rest ]", "either [ rest]", "either [rest;]",
    "either [rest; ]", "either [; rest]", "either [rest;rest]", "either [rest;  rest]", "either [rest ; rest]", "either [rest,rest]",
    "either [", "either ]", "either [[]]", "either [rest", "either rest", "either [] rest", "loop", "loop [] []", "loop p []", "loop []]",
    "loop [[", "loop [loop []", "loop [get]", "loop [raise]", "mark", "mark m", "mark m []", "mark m [] [] []", "mark [] []", "mark m[] []",
    "mark m [][]", "mark m  [] []", "mark m [] [rest", "mark m n [] []", "jump", "jump m n", "move m", "move m n o", "arm", "raise",
    "try [] []", "got p", "->", "get ->", "get :", "loop (rest)", "{}", "get p#", "\x00", "get p\x00", "get p\r", "loop [\n]", "[", "]",
    "[]", ";", "; ", "rest; rest", "either [rest]\n",
]


class Statements(unittest.TestCase):

    def test_both_ways(self):
        for text, statement in STATEMENTS.items():
            self.assertEqual(show_statement(statement), text)
            self.assertEqual(read_statement(text), statement)

    def test_lists_and_tuples(self):
        for one in SIMPLE + NESTED:
            read = read_statement(show_statement(one))
            self.assertEqual(show_statement(read), show_statement(one))
        self.assertEqual(read_statement(show_statement(("loop", (("call", "p", "f", ["q"]),)))), ("loop", [("call", "p", "f", ("q",))]))
        self.assertEqual(read_statement(show_statement(("either", ((), (("rest",),))))), ("either", [[], [("rest",)]]))

    def test_no_texts(self):
        for text in NO_STATEMENTS:
            with self.assertRaises(NoText, msg=repr(text)):
                read_statement(text)

    def test_deep_ones(self):
        for many in (1, 10, 60):
            self.assertEqual(read_statement(show_statement(depth(many))), depth(many))

    def test_many_brackets(self):
        """How these are read is not specified; but they are no failure of another kind."""
        for text in ("[" * 10000, "loop [" * 5000, "]" * 10000, "either [" * 3000 + "]" * 3000, "loop [" * 70 + "]" * 70):
            try:
                read_statement(text)
            except NoText:
                pass

    def test_new_lists(self):
        read_statement("loop [rest]")[1].clear()
        self.assertEqual(read_statement("loop [rest]"), ("loop", [("rest",)]))


class Programs(unittest.TestCase):

    def test_example(self):
        text = "main: [clear p; mark m [] [free p; clear p]; get p; either [jump m] []; free p; clear p] -> p\n"
        self.assertEqual(show_program(Program(PLAN)), text)
        self.assertEqual(read_program(text), Program(PLAN))

    def test_all_parts(self):
        functions = {"main": ([], [("call", "p", "f", ("p", "q"))], "p"), "f": (["b", "a"], [("loop", [("use", "a")]), ("use", "b")], "a")}
        program = Program(functions, kept=[("main", "q"), ("f", "a"), ("main", "p")], shut=[("main", (0,)), ("f", (0, 0, 0)), ("f", (0,))])
        text = ("f b a: [loop [use a]; use b] -> a\nmain: [call p f p q] -> p\nkeep f a\nkeep main p\nkeep main q\n"
                "shut f 0\nshut f 0.0.0\nshut main 0\n")
        self.assertEqual(show_program(program), text)
        self.assertEqual(read_program(text), program)
        self.assertEqual(show_program(Program({"main": ([], [], "p")})), "main: [] -> p\n")
        self.assertEqual(read_program("main: [] -> p\n"), Program({"main": ([], [], "p")}))

    def test_own_words(self):
        program = Program(WORDS, kept=[("keep", "keep"), ("shut", "shut"), ("main", "shut")], shut=[("keep", (0,)), ("shut", (1,))])
        text = show_program(program)
        self.assertEqual(text, "keep either mark: [use either] -> keep\nmain: [mark loop [call keep keep shut use] []; free body] -> rest\n"
                               "shut: [jump arm] -> shut\nkeep keep keep\nkeep main shut\nkeep shut shut\nshut keep 0\nshut shut 1\n")
        self.assertEqual(read_program(text), program)

    def test_by_chance(self):
        every = programs() + [make(seed) for seed in range(40) for make in (chance_program, rich_program)]
        for program in every:
            self.assertEqual(read_program(show_program(program)), program)

    def test_great_addresses(self):
        body = [("either", [[]] * 12 + [[("rest",)] * 11])]
        program = Program({"main": ([], body, "p")}, shut=[("main", (0, 12, 10))])
        self.assertIn("shut main 0.12.10\n", show_program(program))
        self.assertEqual(read_program(show_program(program)), program)

    def test_no_texts(self):
        right = "f a: [use a] -> a\nmain: [rest] -> p\nkeep f a\nkeep main p\nshut f 0\nshut main 1\n"
        self.assertEqual(show_program(read_program(right)), right)
        for old, new in (
                ("f a:", "f  a:"), ("f a:", "f a :"), ("f a:", " f a:"), ("f a:", "f a a:"), ("f a:", "f a b c:"), ("f a:", "F a:"),
                ("f a:", "f A:"), ("f a:", "f a"), ("f a:", "f a::"), ("f a:", ":"), ("f a: ", "f a:"), ("f a: ", "f a:  "),
                ("[use a]", "[use a] "), ("[use a]", "use a"), ("[use a]", "[use a"), ("[use a]", "[use a]]"), ("[use a]", "[use  a]"),
                ("[use a]", "[use a; ]"), ("[use a]", "[5]"), ("[use a]", "[raise]"), ("[use a]", "[] []"), ("[use a]", ""),
                ("-> a", "-> A"), ("-> a", "->a"), ("-> a", "->"), ("-> a", "-> "), ("-> a", "-> a b"), ("-> a", "-> a "), ("-> a", "- a"),
                ("-> a", "-> a -> a"), ("-> a", "=> a"), ("] -> a", "]-> a"), ("-> a\n", "-> a"), ("-> a\n", "-> a\n\n"), ("-> a\n", "-> a\r\n"),
                ("f a: [use a] -> a\n", ""), ("main: [rest] -> p\n", ""), ("main:", "g:"), ("main:", "main p:"), ("main:", "f:"),
                ("f a: [use a] -> a\n", "f a: [use a] -> a\nf a: [use a] -> a\n"),
                ("keep f a\n", "keep f a\nkeep f a\n"), ("keep f a", "keep f"), ("keep f a", "keep f a a"), ("keep f a", "keep f b"),
                ("keep f a", "keep g a"), ("keep f a", "Keep f a"), ("keep f a", "keep  f a"), ("keep f a", "keep f a "), ("keep f a", "keep f 0"),
                ("keep f a\nkeep main p\n", "keep main p\nkeep f a\n"), ("keep main p\nshut f 0\n", "shut f 0\nkeep main p\n"),
                ("shut f 0\nshut main 1\n", "shut main 1\nshut f 0\n"), ("shut f 0\n", "shut f 0\nshut f 0\n"), ("shut f 0", "shut f 00"),
                ("shut f 0", "shut f 2"), ("shut f 0", "shut f 0.0"), ("shut f 0", "shut f 0.0.0"), ("shut f 0", "shut f 0."),
                ("shut f 0", "shut f .0"), ("shut f 0", "shut f"), ("shut f 0", "shut f a"), ("shut f 0", "shut f -0"), ("shut f 0", "shut f 0 0"),
                ("shut f 0", "shut f +0"), ("shut f 0", "shut f 0_0"), ("shut f 0", "loose f 0"), ("shut main 1", "shut main 01"),
                ("shut main 1", "shut main 1000000000"), ("shut main 1", "shut main 0000000001"), ("shut main 1\n", "shut main 1"),
                ("shut main 1\n", "shut main 1\n\n"), ("shut main 1\n", "shut main 1\n "), ("f a", "\nf a"), ("[rest]", "[call p f]"),
                ("[rest]", "[call p f p q]"), ("[rest]", "[call p main]"), ("[rest]", "[arm a; arm b; arm c; arm d]"), ("shut f 0", "keep: 0"),
                ("f a: [use a] -> a\nmain: [rest] -> p\n", "main: [rest] -> p\nf a: [use a] -> a\n"), ("f a", "fffffffff a")):
            text = right.replace(old, new, 1)
            self.assertNotEqual(text, right)
            with self.assertRaises(NoText, msg=repr(text)):
                read_program(text)

    def test_others(self):
        for text in ("", "\n", "main", "main:", "main: [] -> p", "main: [] -> p\n\n", "keep main p\n", "main: [] -> p\nmain: [] -> p\n",
                     "f: [] -> p\n", "main: [] -> p\nrest\n") + tuple(STATEMENTS):
            with self.assertRaises(NoText, msg=repr(text)):
                read_program(text)


class Runs(unittest.TestCase):

    def test_both_ways(self):
        run = [("go",), ("body", 0), ("body", 12), ("jump", ()), ("jump", ("p", "q")), ("break", ()), ("break", ("a",)),
               ("within", ("p",)), ("within", ()), ("body", 999999999), ("jump", ("body", "break", "go", "jump"))]
        text = ("go\nbody 0\nbody 12\njump\njump p q\nbreak\nbreak a\nwithin p\nwithin\nbody 999999999\njump body break go jump\n")
        self.assertEqual(show_run(run), text)
        self.assertEqual(show_run(tuple(run)), text)
        self.assertEqual(read_run(text), run)
        self.assertEqual([show_run([]), show_run(()), read_run("")], ["", "", []])

    def test_by_chance(self):
        for seed in range(40):
            chance = random.Random(seed)
            machine = Machine(chance.choice((rich_program(seed), Program(ARMED), Program(STALE))))
            while machine.wanted() and len(machine) < 40:
                machine.step(chance.choice(machine.wanted()))
            self.assertEqual(read_run(show_run(machine.run())), machine.run())
        self.assertEqual(show_run(fault_run(Program(PLAN))), "go\ngo\ngo\nbody 0\njump p\n")

    def test_no_texts(self):
        for line in ("", " ", "go ", " go", "go go", "Go", "went", "body", "body ", "body 00", "body 01", "body -1", "body +1", "body a", "body 0 0",
                     "body  0", "body 0 ", "body 1000000000", "body 0000000000", "body 1_0", "body 1.0", "jump ", "jump  p", "jump p ", "jump q p",
                     "jump p p", "jump P", "jump p  q", "jump p, q", "jump abcdefghi", "jump 0", "break q p", "within p p", "breaks", "raise", "get p",
                     "go\r", "jump ()", "body [0]", "call"):
            for text in (line + "\n", "go\n" + line + "\ngo\n"):
                with self.assertRaises(NoText, msg=repr(text)):
                    read_run(text)
        for text in ("go", "\n", "go\n\n", "\ngo\n", "go\ngo", "go go\n", "go;go\n"):
            with self.assertRaises(NoText, msg=repr(text)):
                read_run(text)

    def test_new_lists(self):
        read_run("go\n").clear()
        self.assertEqual(read_run("go\n"), [("go",)])


class Deeds(unittest.TestCase):

    DEEDS = {
        "body f p q: [use p; use q] -> p": ("body", "f", ["p", "q"], [("use", "p"), ("use", "q")], "p"),
        "body main: [] -> p": ("body", "main", [], [], "p"), "body main a b: [loop []] -> p": ("body", "main", ["a", "b"], [("loop", [])], "p"),
        "body body body: [get body] -> body": ("body", "body", ["body"], [("get", "body")], "body"),
        "body f: [call p g a b; call p main] -> x":
            ("body", "f", [], [("call", "p", "g", ("a", "b")), ("call", "p", "main", ())], "x"),
        "drop f": ("drop", "f"), "drop drop": ("drop", "drop"), "keep f p": ("keep", "f", "p"), "loose f p": ("loose", "f", "p"),
        "shut f 0": ("shut", "f", (0,)), "open f 0": ("open", "f", (0,)), "shut shut 3.0.0": ("shut", "shut", (3, 0, 0)),
        "open main 10.2.999999999": ("open", "main", (10, 2, 999999999)), "keep keep keep": ("keep", "keep", "keep"),
    }

    def test_both_ways(self):
        for text, deed in self.DEEDS.items():
            self.assertEqual(show_deed(deed), text)
            self.assertEqual(read_deed(text), deed)
        self.assertEqual(show_deed(("body", "f", ("p",), (("loop", ()),), "p")), "body f p: [loop []] -> p")

    def test_no_texts(self):
        for text in ("", " ", "drop", "drop ", "drop  f", " drop f", "drop f ", "drop f\n", "drop F", "drop f g", "drop 0", "drop [f]", "keep f", "keep f p q",
                     "keep f  p", "keep f 0", "keep f P", "loose f", "loose", "loose f p ", "shut f", "shut f p", "shut f 00", "shut f 0.0", "shut f 01",
                     "shut f 0.", "shut f .0", "shut f 0..0", "shut f 0.0.0.0", "shut f -1", "shut f 1000000000", "shut f 0 0", "open f", "open F 0", "open f 0 ",
                     "open f 0.0.1000000000", "body", "body f", "body f:", "body f: []", "body f: [] ->", "body f: [] -> ", "body f: [] -> P", "body f: [] -> p ",
                     "body f: [] -> p\n", "body f : [] -> p", "body  f: [] -> p", "body f p p: [] -> p", "body f a b c: [] -> p", "body : [] -> p",
                     "body f: [5] -> p", "body f: [raise] -> p", "body f: [get] -> p", "body f: [get p;use p] -> p", "body f: [[]] -> p", "body f: get p -> p",
                     "body f: [get p] -> p -> p", "body f:[] -> p", "body f: []-> p", "body f: [] ->p", "body f: [loop [] -> p", "bodyf: [] -> p", "body f p",
                     "body 0", "back", "again", "go", "f: [] -> p", "f p: [use p] -> p", "body\nf: [] -> p", "Drop f"):
            with self.assertRaises(NoText, msg=repr(text)):
                read_deed(text)

    def test_new_lists(self):
        read_deed("body f p: [loop []] -> p")[3][0][1].append(5)
        self.assertEqual(read_deed("body f p: [loop []] -> p"), ("body", "f", ["p"], [("loop", [])], "p"))


class Logs(unittest.TestCase):

    def test_both_ways(self):
        book = Book(made())
        lines = ["loose main p", "body f a: [call b f a] -> b", "shut f 0", "keep f b", "body main: [call q f p] -> p", "drop g"]
        book.do(("loose", "main", "p"))
        book.do(("body", "f", ("a",), (("call", "b", "f", ["a"]),), "b"))
        book.do(("shut", "f", (0,)))
        book.do(("keep", "f", "b"))
        book.do(("body", "main", (), [("call", "q", "f", ("p",))], "p"))
        text = "".join(line + "\n" for line in lines[:5])
        self.assertEqual(show_log(book), text)
        read = read_log(made(), text)
        self.assertIsInstance(read, Book)
        self.assertTrue(read == book)
        self.assertEqual(read.program(), book.program())
        book.back()
        self.assertEqual(show_log(book), "".join(line + "\n" for line in lines[:4]))
        self.assertEqual([show_log(Book(made())), read_log(made(), "") == Book(made())], ["", True])

    def broken(self, program, text, at):
        with self.assertRaises(Broken) as held:
            read_log(program, text)
        self.assertEqual(held.exception.at, at)

    def test_broken(self):
        program = Program(PLAN)
        self.broken(program, "loose main p\n", 0)
        self.broken(program, "keep main p\nkeep main p\nkeep main p\n", 1)
        self.broken(program, "keep main p\nshut main 0\nbody f: [call p g] -> p\ndrop f\n", 2)
        self.broken(program, "drop main\n", 0)
        self.broken(program, "body main p: [] -> p\n", 0)
        self.assertEqual(program, Program(PLAN))

    def test_sixty(self):
        text = "keep main p\nloose main p\n" * 30
        self.assertEqual(len(read_log(Program(PLAN), text)), 60)
        self.broken(Program(PLAN), text + "keep main p\n", 60)

    def test_no_text_ahead_of_broken(self):
        for text in ("loose main p\nkeep\n", "keep main p", "drop main\n\n", "\n", "keep main p\nkeep main p", "loose main p\n "):
            with self.assertRaises(NoText, msg=repr(text)):
                read_log(Program(PLAN), text)


class AnyValues(unittest.TestCase):

    def test_no_strings(self):
        values = [thing for thing in AWKWARD if not isinstance(thing, str)] + [["get p"], ("get p",), b"get p", {"get p": 1}, 10 ** 30,
                                                                               Program(PLAN), Book(Program(PLAN)), NoText()]
        for thing in values:
            for read in READS:
                with self.assertRaises(NoText, msg=repr(thing)) as held:
                    read(thing)
                self.assertIsInstance(held.exception, BackError)

    def test_spoiled_texts(self):
        """A text is refused, or it is just what is written of what is read."""
        shows = (show_statement, show_program, show_run, show_deed, show_log)
        texts = [list(STATEMENTS), [show_program(Program(CHAIN)), show_program(made())], ["go\nbody 10\njump p q\nbreak\n"],
                 list(Deeds.DEEDS), ["keep main p\nshut main 10.0.1\n", "keep main p\nloose main p\nbody f a: [use a] -> a\n"]]
        chance = random.Random(1)
        read_some = refused = 0
        for read, show, some in zip(READS, shows, texts):
            for _ in range(2500):
                text = chance.choice(some)
                for _ in range(chance.choice((1, 1, 2))):
                    at = chance.randint(0, len(text))
                    sign = chance.choice(["", "", " ", "\n", "[", "]", ";", ":", "0", "1", "p", "q", ".", "-", ">", "P", "\t", "; ", "[]"])
                    text = text[:at] + sign + text[at + chance.choice((0, 1, 1)):]
                try:
                    found = read(text)
                except (NoText, Broken):
                    refused += 1
                else:
                    self.assertEqual(show(found), text)
                    read_some += 1
        self.assertGreater(min(refused, read_some), 500)


class Same(unittest.TestCase):

    def test_nothing_is_changed(self):
        deed = ("body", "f", ("p",), (("loop", ()),), "p")
        show_deed(deed)
        run = [("go",)]
        show_run(run)
        self.assertEqual([deed, run], [("body", "f", ("p",), (("loop", ()),), "p"), [("go",)]])

    def test_the_same_texts_for_equal_things(self):
        lists = {"main": ([], [("either", [[("rest",)], []])], "p"), "f": (["a"], [], "a")}
        tuples = {"f": (("a",), (), "a"), "main": ((), (("either", ((("rest",),), ())),), "p")}
        self.assertEqual(show_program(Program(lists)), show_program(Program(tuples)))


if __name__ == "__main__":
    unittest.main()
