"""[20], [4]: the errors, their class, and the objects that they keep."""

import inspect
import unittest

from landedback import errors

# The arguments of each error, as the interface lists them.
SIGNATURES = {
    "Wrong": ["place"],
    "BadStatement": ["function", "address"],
    "BadCells": ["many"],
    "BadKept": ["function", "name"],
    "BadShut": ["function", "address"],
    "Unknown": ["function"],
    "NoName": ["name"],
    "Over": [],
    "Unfit": [],
    "Nothing": [],
    "Broken": ["at"],
    "BadPlacing": ["at"],
    "TooMany": ["limit"],
    "Faulty": ["word", "function", "address"],
    "Unsteady": ["why"],
    "NoDeed": [],
    "Full": ["limit"],
    "Refused": ["deed", "why"],
    "NoEntry": ["many"],
    "NoText": [],
    "NoCommand": [],
}


class Awkward:
    """Cannot be hashed, compared or shown."""

    __hash__ = None

    def __eq__(self, other):
        raise RuntimeError("compared")

    def __repr__(self):
        raise RuntimeError("shown")


def values():
    return [None, True, False, 0, -7, 10 ** 50, "", "p", b"x", [], [1, [2]], (), (0, 1), {}, {"a": 1},
            {1, 2}, object(), ValueError("x"), len, int, Awkward()]


class Errors(unittest.TestCase):

    def test_base(self):
        self.assertEqual(errors.BackError.__bases__, (ValueError,))

    def test_just_these(self):
        found = {name for name, thing in vars(errors).items() if inspect.isclass(thing)}
        self.assertEqual(found, set(SIGNATURES) | {"BackError"})

    def test_direct_subclasses(self):
        for name in SIGNATURES:
            self.assertEqual(getattr(errors, name).__bases__, (errors.BackError,), name)

    def test_defined_here(self):
        for name in list(SIGNATURES) + ["BackError"]:
            self.assertEqual(getattr(errors, name).__module__, "landedback.errors")

    def test_signatures(self):
        for name, fields in SIGNATURES.items():
            self.assertEqual(list(inspect.signature(getattr(errors, name)).parameters), fields, name)

    def test_fields_are_the_very_objects(self):
        for name, fields in SIGNATURES.items():
            for value in values():
                given = [value if at == 0 else [value] for at in range(len(fields))]
                error = getattr(errors, name)(*given)
                for field, item in zip(fields, given):
                    self.assertIs(getattr(error, field), item)
                by_word = getattr(errors, name)(**dict(zip(fields, given)))
                for field, item in zip(fields, given):
                    self.assertIs(getattr(by_word, field), item)

    def test_second_fields(self):
        for value in values():
            self.assertIs(errors.BadKept("f", value).name, value)
            self.assertIs(errors.BadShut("f", value).address, value)
            self.assertIs(errors.BadStatement("f", value).address, value)
            self.assertIs(errors.Refused(None, value).why, value)
            self.assertIs(errors.Faulty("lost", "f", value).address, value)
            self.assertIs(errors.Faulty("lost", value, (0,)).function, value)

    def test_raised_and_caught(self):
        for name, fields in SIGNATURES.items():
            made = getattr(errors, name)(*fields)
            for caught in (getattr(errors, name), errors.BackError, ValueError):
                with self.assertRaises(caught) as held:
                    raise made
                self.assertIs(held.exception, made)

    def test_lists_are_not_copied(self):
        why = ["shared"]
        error = errors.Unsteady(why)
        why.append("main")
        self.assertEqual(error.why, ["shared", "main"])

    def test_arguments_too_many_and_too_few(self):
        for name, fields in SIGNATURES.items():
            with self.assertRaises(TypeError):
                getattr(errors, name)(*(fields + ["more"]))
            if fields:
                with self.assertRaises(TypeError):
                    getattr(errors, name)(*fields[1:])


if __name__ == "__main__":
    unittest.main()
