"""[82], with [8], [12] and [13]: pushed_raises, is_right, wrong_raise and most_open."""

import functools
import unittest

from landedback.errors import TooMany
from landedback.pushed import is_right, most_open, pushed_raises, wrong_raise
from landedback.schemes import led, scheme
from landedback.runs import played
from landedback.tries import Tried, Trying
from tests.test_tables import FUNCTIONS, NAMES, renamed_body
from tests.trieds import DEEP_TRIED, NEVER, SPREAD, TWICE, TriedReference, nested_program, tried_program, trieds

GO = ("go",)
RAISE = ("either", [[("raise",)], []])


def main(body, result="p", **others):
    return Tried({"main": ([], body, result), **others})


@functools.lru_cache
def all_shown():
    """Tuples of a program and what its runs show."""
    found = trieds() + [make(seed) for seed in range(80) for make in (tried_program, nested_program)]
    return [(tried, Shown(tried)) for tried in found]


class Shown:
    """What runs show, those that stand alike done once, and so many at most; whole is whether these are all."""

    def __init__(self, tried, most=250):
        self.raises = {1: set(), 2: set()}
        self.fewest = {1: None, 2: None}
        self.highest = 0
        self.calls = set()
        seen = set()
        todo = [TriedReference(tried)]
        while todo and len(seen) < most:
            run = todo.pop(0)
            here = run.here()
            one = run.statement(*here)
            if one == ("raise",) and run.open:
                for many in (1, 2):
                    if run.pushed[-1] >= many:
                        self.raises[many].add(here)
                        self.fewest[many] = self.fewest[many] or run.many + 1
            if one is not None and one[0] == "call":
                own = [address for call, address in run.open if call == len(run.calls) - 1]
                self.calls.add((here[0], one[2], len(own) > 0))
            for data in run.wanted():
                other = run.copied()
                other.highest = 0
                other.step(data)
                self.highest = max(self.highest, other.highest)
                stand = repr(([(call["function"], call["address"]) for call in other.calls], other.open,
                              [min(most, 2) for most in other.pushed], other.over))
                if stand not in seen:
                    seen.add(stand)
                    if not other.over:
                        todo.append(other)
        self.whole = not todo


class Pushed(unittest.TestCase):

    def test_example(self):
        self.assertEqual([is_right(Tried(TWICE), 1), is_right(Tried(TWICE), 2)], [False, True])
        self.assertEqual(pushed_raises(Tried(TWICE), 1), [("main", (0, 0, 1, 0, 0))])
        self.assertEqual(wrong_raise(Tried(TWICE), 1), [GO, GO, GO, ("body", 0), GO])
        self.assertEqual([pushed_raises(Tried(TWICE), 2), wrong_raise(Tried(TWICE), 2)], [[], None])

    def test_by_hand(self):
        inner = ("try", [("try", [("clear", "p")], [])], [])
        for body, one, two in (
                ([], 0, 0), ([("raise",)], 0, 0), ([("try", [("raise",)], [])], 0, 0),
                ([("try", [inner, ("raise",)], [])], 1, 1), ([("try", [("try", [], []), ("raise",)], [])], 1, 0),
                # The try at which it is raised is closed by then; it is the one around it that counts.
                ([("try", [("try", [("raise",)], [("raise",)])], [])], 1, 0),
                ([("try", [("try", [("try", [("raise",)], [("raise",)])], [("raise",)])], [])], 2, 1),
                # The one that was pushed out is closed.
                ([("try", [inner], [("raise",)]), ("try", [("raise",)], [])], 0, 0),
                ([("try", [("loop", [inner]), ("loop", [("try", [("raise",)], [])]), RAISE], [])], 1, 1)):
            self.assertEqual([len(pushed_raises(main(body), many)) for many in (1, 2)], [one, two], body)

    def test_across_calls(self):
        """A raise of a called function closes a try of a call that waits."""
        tried = main([("try", [("call", "p", "f", ())], [])], f=([], [("try", [], []), ("raise",)], "x"))
        self.assertEqual([pushed_raises(tried, 1), pushed_raises(tried, 2)], [[("f", (1,))], []])
        self.assertEqual(wrong_raise(tried, 1), [GO, GO, GO, GO])
        # No try is open where it is called.
        tried = main([("call", "p", "f", ())], f=([], [("try", [], []), ("raise",)], "x"))
        self.assertIs(is_right(tried, 1), True)
        # The called function's tries push those of its caller out.
        tried = main([("try", [("call", "p", "f", ()), RAISE], [])], f=([], [("try", [("try", [], [])], [])], "x"))
        self.assertEqual([pushed_raises(tried, many) for many in (1, 2)], [[("main", (0, 0, 1, 0, 0))]] * 2)

    def test_functions_that_call_themselves_within_a_try(self):
        tried = main([("call", "p", "f", ())], f=([], [("try", [("either", [[("call", "x", "f", ())], []]), RAISE], [])], "x"))
        self.assertEqual([pushed_raises(tried, many) for many in (1, 2)], [[("f", (0, 0, 1, 0, 0))]] * 2)
        self.assertEqual([len(wrong_raise(tried, many)) for many in (1, 2)], [10, 15])

    def test_raises_to_which_no_run_comes(self):
        inner = ("try", [], [])
        tried = main([("try", [inner, ("raise",), ("raise",)], []), ("raise",), ("try", [inner, ("raise",)], [])],
                     f=([], [("try", [inner, ("raise",)], [])], "x"))
        self.assertEqual(pushed_raises(tried, 1), [("main", (0, 0, 1))])

    def test_against_runs(self):
        seen = set()
        for tried, shown in all_shown():
            for many in (1, 2):
                found = pushed_raises(tried, many)
                self.assertIs(is_right(tried, many), not found)
                self.assertEqual(found, sorted(set(found) | shown.raises[many]))
                run = wrong_raise(tried, many)
                self.assertEqual(run is None, not found)
                if shown.whole:
                    self.assertEqual(found, sorted(shown.raises[many]), tried.functions())
                if shown.fewest[many]:
                    self.assertEqual(len(run), shown.fewest[many])
                if run is not None:
                    self.check_run(tried, many, run, found)
                seen.add((many, min(len(found), 2), shown.whole))
            self.assertLessEqual(set(pushed_raises(tried, 2)), set(pushed_raises(tried, 1)))
        self.assertLessEqual({(1, 0, True), (1, 1, True), (1, 2, True), (2, 0, True), (2, 1, True), (1, 1, False)}, seen)

    def check_run(self, tried, many, run, found):
        trying, other = Trying(tried), TriedReference(tried)
        for data in run[:-1]:
            trying.step(data)
            other.step(data)
        self.assertIn(trying.here(), found)
        self.assertGreaterEqual(other.pushed[-1], many)
        self.assertEqual([other.statement(*other.here()), run[-1]], [("raise",), GO])
        # [12]: the scheme falls there, though a try is open.
        self.assertIs(played(scheme(tried, many), led(tried, many, run)).fallen, True)
        trying.step(run[-1])
        self.assertIs(trying.fallen, False)

    def test_two_hundred_steps(self):
        def program(further):
            return main([("try", [("try", [], [])] + [("call", "p", "f", ())] * 6 + [("clear", "p")] * further + [("raise",)], [])],
                        f=([], [("call", "x", "g", ())] * 2, "x"), g=([], [("clear", "y")] * 12, "y"))
        steps = len(wrong_raise(program(0), 1))
        self.assertLess(steps, 200)
        self.assertEqual(len(wrong_raise(program(200 - steps), 1)), 200)
        tried = program(201 - steps)
        with self.assertRaises(TooMany) as held:
            wrong_raise(tried, 1)
        self.assertEqual(held.exception.limit, 200)
        self.assertEqual([len(pushed_raises(tried, 1)), is_right(tried, 1), wrong_raise(tried, 2)], [1, False, None])

    def test_new_lists(self):
        tried = Tried(TWICE)
        pushed_raises(tried, 1).clear()
        wrong_raise(tried, 1).clear()
        self.assertEqual([len(pushed_raises(tried, 1)), len(wrong_raise(tried, 1))], [1, 5])

    def test_renamed(self):
        """[13]."""
        for seed in range(40):
            tried = tried_program(seed)
            other = renamed(tried)
            for many in (1, 2):
                expected = [(FUNCTIONS[function], address) for function, address in pushed_raises(tried, many)]
                self.assertEqual(pushed_raises(other, many), expected)
            told = most_open(tried)
            self.assertEqual(most_open(other)[0], told[0])
            if told[0] == "most":
                self.assertEqual(most_open(other), told)


def renamed(tried):
    def body(statements):
        found = []
        for one in statements:
            if one[0] == "try":
                found.append(("try", body(one[1]), body(one[2])))
            elif one[0] in ("either", "loop"):
                found.append((one[0], [body(inner) for inner in one[1]] if one[0] == "either" else body(one[1])))
            elif one[0] == "raise":
                found.append(one)
            else:
                found += renamed_body([one])
        return found

    return Tried({FUNCTIONS[name]: ([NAMES[one] for one in parameters], body(inner), NAMES[result])
                  for name, (parameters, inner, result) in tried.functions().items()})


class Most(unittest.TestCase):

    def test_numbers(self):
        for body, number in (([], 0), ([("clear", "p")], 0), ([("try", [], [])], 1), ([("try", [("try", [], [])], [])], 2),
                             ([("try", [], [("try", [], [])])], 1), ([("loop", [("try", [("try", [("get", "p")], [])], [])])], 2),
                             ([("either", [[("try", [], [])], [("try", [("try", [("try", [], [])], [])], [])]])], 3),
                             ([("raise",), ("try", [], [])], 0), ([("try", [("raise",), ("try", [], [])], [("raise",)])], 1),
                             ([("try", [("raise",)], [("try", [("try", [], [])], [])])], 2),
                             ([("try", [("clear", "p")], [("try", [("try", [], [])], [])])], 1)):
            self.assertEqual(most_open(main(body)), ("most", number), body)

    def test_across_calls(self):
        f, g = [("try", [("call", "x", "g", ())], [])], [("try", [], [])]
        tried = main([("try", [("call", "p", "f", ())], []), ("call", "p", "g", ())], f=([], f, "x"), g=([], g, "y"))
        self.assertEqual(most_open(tried), ("most", 3))
        # To what no run comes.
        tried = main([("raise",), ("try", [("call", "p", "f", ())], [])], f=([], f, "x"), g=([], g, "y"))
        self.assertEqual(most_open(tried), ("most", 0))
        tried = main([("call", "p", "g", ())], f=([], [("try", f, [])], "x"), g=([], g, "y"))
        self.assertEqual(most_open(tried), ("most", 1))

    def test_rings_in_no_try(self):
        """They do not open more and more tries."""
        tried = main([("try", [("call", "p", "f", ())], [])],
                     f=([], [("either", [[("call", "x", "g", ())], []]), ("try", [], [])], "x"), g=([], [("call", "y", "f", ())], "y"))
        self.assertEqual(most_open(tried), ("most", 2))
        tried = main([("call", "p", "f", ())], f=([], [("either", [[("call", "x", "f", ())], []])], "x"))
        self.assertEqual(most_open(tried), ("most", 0))
        # The call stands in the other body of the try.
        tried = main([("call", "p", "f", ())], f=([], [("try", [RAISE], [("call", "x", "f", ())])], "x"))
        self.assertEqual(most_open(tried), ("most", 1))

    def check_ring(self, tried, told):
        word, functions = told
        self.assertEqual(word, "ring")
        self.assertIsInstance(functions, list)
        calls = Shown(tried).calls
        pairs = list(zip(functions, functions[1:] + functions[:1]))
        for caller, called in pairs:
            self.assertTrue((caller, called, True) in calls or (caller, called, False) in calls, told)
        self.assertTrue(any((caller, called, True) in calls for caller, called in pairs))

    def test_rings(self):
        one = ([], [("either", [[("try", [("call", "x", "f", ())], [])], []])], "x")
        tried = main([("call", "p", "f", ())], f=one)
        self.assertEqual(most_open(tried), ("ring", ["f"]))
        self.check_ring(tried, most_open(tried))
        f = ([], [("either", [[("call", "x", "g", ())], []])], "x")
        g = ([], [("try", [("call", "y", "f", ())], [])], "y")
        tried = main([("call", "p", "f", ())], f=f, g=g)
        self.assertEqual(sorted(most_open(tried)[1]), ["f", "g"])
        self.check_ring(tried, most_open(tried))
        tried = main([("call", "p", "f", ())], f=f, g=([], [("try", [("call", "y", "h", ())], [])], "y"),
                     h=([], [("call", "z", "f", ())], "z"))
        self.assertEqual(sorted(most_open(tried)[1]), ["f", "g", "h"])
        self.check_ring(tried, most_open(tried))

    def test_rings_to_which_no_run_comes(self):
        one = ([], [("either", [[("raise",), ("try", [("call", "x", "f", ())], [])], []])], "x")
        self.assertEqual(most_open(main([("call", "p", "f", ())], f=one)), ("most", 0))
        ring = ([], [("try", [("call", "x", "f", ())], [])], "x")
        self.assertEqual(most_open(main([("try", [], [])], f=ring)), ("most", 1))
        # The only call of it stands behind one that never comes back.
        self.assertEqual(most_open(main([("call", "p", "g", ()), ("call", "p", "f", ())], f=ring, g=([], [("raise",)], "y"))), ("most", 0))

    def test_against_runs(self):
        seen = set()
        for tried, shown in all_shown():
            told = most_open(tried)
            if told[0] == "ring":
                self.assertIs(shown.whole, False)
                self.check_ring(tried, told)
            else:
                self.assertGreaterEqual(told[1], shown.highest)
                if shown.whole:
                    self.assertEqual(told, ("most", shown.highest), tried.functions())
            seen.add(told[0] if told[0] == "ring" else told[1])
        self.assertLessEqual({"ring", 0, 1, 2, 3}, seen)

    def test_new_lists(self):
        tried = main([("call", "p", "f", ())], f=([], [("try", [("call", "x", "f", ())], [])], "x"))
        most_open(tried)[1].clear()
        self.assertEqual(most_open(tried), ("ring", ["f"]))

    def test_given_ones(self):
        self.assertEqual(most_open(Tried(TWICE)), ("most", 2))
        self.assertEqual(most_open(Tried(SPREAD)), ("most", 2))
        self.assertEqual(most_open(Tried(DEEP_TRIED)), ("ring", ["f"]))
        self.assertEqual(most_open(Tried(NEVER)), ("most", 1))


if __name__ == "__main__":
    unittest.main()
