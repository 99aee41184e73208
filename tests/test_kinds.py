"""[20], [2], [3]: integers, names and numbers."""

import unittest

from landedback.kinds import is_address, is_integer, is_name, is_number

OTHERS = [None, [], (), {}, set(), b"a", ["a"], ("a",), {"a": 1}, object(), len, int, 1j, Exception("a")]


class Kinds(unittest.TestCase):

    def test_integers(self):
        for thing in (0, 1, -1, 12, 10 ** 60, -10 ** 60):
            self.assertIs(is_integer(thing), True)

    def test_no_integers(self):
        for thing in OTHERS + [True, False, "1", "a", ""]:
            self.assertIs(is_integer(thing), False)

    def test_names(self):
        for thing in ("a", "z", "main", "abcdefgh", "zzzzzzzz"):
            self.assertIs(is_name(thing), True)

    def test_no_names(self):
        wrong = ["", "abcdefghi", "A", "aB", "a1", "1", "_", "a_b", "a b", " a", "a ", "a\n", "`", "{", "a-b",
                 True, False, 0, 1, 97]
        for thing in OTHERS + wrong:
            self.assertIs(is_name(thing), False, repr(thing))

    def test_every_sign(self):
        for number in range(128):
            sign = chr(number)
            expected = sign in "abcdefghijklmnopqrstuvwxyz"
            self.assertIs(is_name(sign), expected)
            self.assertIs(is_name("a" + sign), expected)
            self.assertIs(is_name(sign + "a"), expected)

    def test_numbers(self):
        for many in range(5):
            for thing in range(-3, 8):
                self.assertIs(is_number(many, thing), 0 <= thing < many)

    def test_no_numbers(self):
        for thing in OTHERS + [True, False, "0", "1"]:
            self.assertIs(is_number(5, thing), False)

    def test_numbers_of_none(self):
        self.assertIs(is_number(0, 0), False)
        self.assertIs(is_number(10 ** 30, 10 ** 30 - 1), True)
        self.assertIs(is_number(10 ** 30, 10 ** 30), False)

    def test_addresses(self):
        for thing in ((0,), (7,), (0, 0, 0), (2, 1, 0), (1, 2, 3, 4, 5)):
            self.assertIs(is_address(thing), True)
        for thing in OTHERS + [0, (0, 0), (-1,), (0, -1, 0), (True,), (0, False, 0), ("0",), [0], (None,), "0"]:
            self.assertIs(is_address(thing), False, repr(thing))


if __name__ == "__main__":
    unittest.main()
