"""[40]: begin_entry and begin_row."""

import unittest

from landedback.programs import Program
from landedback.rows import begin_entry, begin_row

CELLS = {
    "main": ([], [("move", "m", "n"), ("call", "p", "f", ("p", "q"))], "p"),
    "f": (["y", "x"], [("take", "z", "x"), ("take", "a", "a"), ("arm", "o")], "z"),
}
UNTOLD = (("nothing",), ("nothing",), ("nothing",))


class Entries(unittest.TestCase):

    def test_of_main(self):
        program = Program(CELLS)
        self.assertEqual(begin_entry(program), ("new", (), False, UNTOLD, ""))
        self.assertEqual(begin_entry(program, nothing=False), ("new", (), False, UNTOLD, ""))
        self.assertEqual(begin_entry(program, nothing=True), ("nothing", (), False, UNTOLD, ""))

    def test_without_cells(self):
        program = Program({"main": ([], [], "p")})
        self.assertEqual(begin_entry(program), ("new", (), False, (), ""))
        self.assertIs(begin_entry(program)[2], False)

    def test_nothing_is_passed_by_keyword(self):
        self.assertRaises(TypeError, lambda: begin_entry(Program(CELLS), True))


class Rows(unittest.TestCase):

    def test_of_main(self):
        program = Program(CELLS)
        entry = begin_entry(program)
        self.assertEqual(begin_row(program, "main", entry), ("main", entry, (0,), ("new", (), UNTOLD, "")))

    def test_of_main_where_nothing_is_followed(self):
        program = Program(CELLS)
        entry = begin_entry(program, nothing=True)
        self.assertEqual(begin_row(program, "main", entry), ("main", entry, (0,), ("nothing", ("p", "q"), UNTOLD, "")))

    def test_parameters_that_have_it(self):
        program = Program(CELLS)
        told = (("nothing",), ("outer", 1), ("outer", 1))
        for passed, names in (((), ()), ((0,), ("y",)), ((1,), ("x",)), ((0, 1), ("x", "y"))):
            for h in ("live", "gone"):
                entry = (h, passed, True, told, "n")
                self.assertEqual(begin_row(program, "f", entry), ("f", entry, (0,), (h, names, told, "n")))

    def test_names_that_hold_nothing(self):
        program = Program(CELLS)
        for passed, names in (((), ("a", "z")), ((0,), ("a", "y", "z")), ((1,), ("a", "x", "z")),
                              ((0, 1), ("a", "x", "y", "z"))):
            entry = ("nothing", passed, False, UNTOLD, "")
            self.assertEqual(begin_row(program, "f", entry)[3], ("nothing", names, UNTOLD, ""))

    def test_new(self):
        program = Program(CELLS)
        told = (("ended",), ("outer", 1), ("nothing",))
        entry = ("new", (), False, told, "o")
        self.assertEqual(begin_row(program, "f", entry), ("f", entry, (0,), ("new", (), told, "o")))

    def test_an_empty_body(self):
        program = Program({"main": ([], [], "p")})
        self.assertEqual(begin_row(program, "main", begin_entry(program))[2], (0,))

    def test_main_in_ways_that_no_run_meets(self):
        program = Program(CELLS)
        told = (("ended",), ("nothing",), ("ended",))
        entry = ("gone", (), False, told, "m")
        self.assertEqual(begin_row(program, "main", entry), ("main", entry, (0,), ("gone", (), told, "m")))


if __name__ == "__main__":
    unittest.main()
