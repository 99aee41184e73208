"""[81], with [12] and [13]: scheme, place_in and led."""

import random
import unittest

from landedback.errors import Broken
from landedback.machine import Machine
from landedback.places import all_places, statement_at
from landedback.programs import Program
from landedback.runs import played
from landedback.schemes import led, place_in, scheme
from landedback.tries import Tried, Trying
from tests.trieds import DEEP_TRIED, NEVER, SPREAD, TWICE, TriedReference, tried_program, trieds

GO = ("go",)
BACK = {1: [("move", "ca", "none")], 2: [("move", "ca", "cb"), ("move", "cb", "none")]}


def main(body, result="p", **others):
    return Tried({"main": ([], body, result), **others})


def all_trieds():
    return trieds() + [tried_program(seed) for seed in range(120)]


class Schemes(unittest.TestCase):

    def body(self, body, many):
        return scheme(main(body), many).functions()["main"][1]

    def test_try(self):
        body = [("clear", "p"), ("try", [("get", "p")], [("free", "p")]), ("use", "p")]
        mark = ("mark", "ca", [("get", "p"), ("move", "ca", "none")], [("move", "ca", "none"), ("free", "p")])
        self.assertEqual(self.body(body, 1), [("clear", "p"), mark, ("use", "p")])
        mark = ("mark", "ca", [("get", "p")] + BACK[2], BACK[2] + [("free", "p")])
        self.assertEqual(self.body(body, 2), [("clear", "p"), ("move", "cb", "ca"), mark, ("use", "p")])

    def test_raise_and_others(self):
        others = [("get", "p"), ("take", "p", "q"), ("clear", "p"), ("use", "p"), ("free", "p")]
        for many in (1, 2):
            self.assertEqual(self.body([("raise",)] + others, many), [("jump", "ca")] + others)
            self.assertEqual(self.body([("either", [[("raise",)], []]), ("loop", [("raise",)])], many),
                             [("either", [[("jump", "ca")], []]), ("loop", [("jump", "ca")])])

    def test_empty_bodies(self):
        for many in (1, 2):
            ahead = [("move", "cb", "ca")] if many == 2 else []
            self.assertEqual(self.body([("try", [], [])], many), ahead + [("mark", "ca", BACK[many], BACK[many])])

    def test_tries_within_tries_and_in_loops(self):
        for many in (1, 2):
            ahead, back = ([("move", "cb", "ca")] if many == 2 else []), BACK[many]
            inner = ahead + [("mark", "ca", [("jump", "ca")] + back, back)]
            body = [("try", [("try", [("raise",)], [])], [("loop", [("try", [("raise",)], [])])])]
            self.assertEqual(self.body(body, many), ahead + [("mark", "ca", inner + back, back + [("loop", inner)])])

    def test_functions(self):
        tried = main([("try", [("call", "p", "f", ("p",))], [])], f=(("a",), (("raise",),), "b"))
        for many in (1, 2):
            program = scheme(tried, many)
            self.assertIsInstance(program, Program)
            self.assertEqual(program.functions()["f"], (["a"], [("jump", "ca")], "b"))
            self.assertEqual([program.kept(), program.shut()], [[], []])
            self.assertEqual([program.names("main"), program.names("f")], [tried.names("main"), tried.names("f")])
        self.assertEqual([scheme(tried, 1).cells(), scheme(tried, 2).cells()], [["ca", "none"], ["ca", "cb", "none"]])
        self.assertEqual(scheme(main([("get", "p")]), 2), Program({"main": ([], [("get", "p")], "p")}))

    def test_none_is_never_marked(self):
        for tried in all_trieds():
            for many in (1, 2):
                text = repr(scheme(tried, many).functions())
                for word in ("mark', 'none", "mark', 'cb", "move', 'none", "arm'", "rest'", "try'", "raise'"):
                    self.assertNotIn("'" + word, text)

    def test_nothing_is_changed(self):
        tried = Tried(SPREAD)
        scheme(tried, 2).functions()["main"][1].clear()
        self.assertEqual(tried, Tried(SPREAD))
        self.assertEqual(scheme(tried, 2), scheme(Tried(SPREAD), 2))


class Places(unittest.TestCase):

    def test_examples(self):
        tried = main([("try", [("use", "p")], [("use", "q")]), ("try", [], [("try", [], [("raise",)])]), ("get", "p")])
        expected = {
            (0,): ((0,), (1,)), (0, 0, 0): ((0, 0, 0), (1, 0, 0)), (0, 1, 0): ((0, 1, 1), (1, 1, 2)), (1,): ((1,), (3,)),
            (1, 1, 0): ((1, 1, 1), (3, 1, 3)), (1, 1, 0, 1, 0): ((1, 1, 1, 1, 1), (3, 1, 3, 1, 2)), (2,): ((2,), (4,)),
            (3,): ((3,), (5,)),
        }
        self.assertEqual([address for _, address in tried.places()], sorted(expected))
        for address, both in expected.items():
            for many in (1, 2):
                self.assertEqual(place_in(tried, many, ("main", address)), ("main", both[many - 1]))

    def test_statements_there(self):
        for tried in all_trieds():
            for many in (1, 2):
                program = scheme(tried, many)
                places = [place_in(tried, many, place) for place in tried.places()]
                self.assertEqual(len(set(places)), len(places))
                for place, other in zip(tried.places(), places):
                    one, made = tried.statement(place), statement_at(program, other)
                    if one is None or one[0] not in ("try", "raise", "either", "loop"):
                        self.assertEqual(made, one)
                    else:
                        self.assertEqual(made[0], {"try": "mark", "raise": "jump"}.get(one[0], one[0]))
                # All others are moves.
                for other in set(all_places(program)) - set(places):
                    self.assertEqual(statement_at(program, other)[0], "move")


def stands_at(tried, many, place):
    """The place in the scheme at which a run stands that does the same: ahead of the move if there is one."""
    function, address = place_in(tried, many, place)
    one = tried.statement(place)
    if many == 2 and one is not None and one[0] == "try":
        address = address[:-1] + (address[-1] - 1,)
    return (function, address)


class Led(unittest.TestCase):

    def beside(self, tried, many, machine, run, at, ahead):
        """Does the step with the number at in the Machine, too, and returns the data of all steps so far."""
        steps = led(tried, many, run[:at + 1])
        self.assertIsInstance(steps, list)
        self.assertEqual(steps[:len(ahead)], ahead)
        for data in steps[len(ahead):]:
            machine.step(data)
        return steps

    def same(self, tried, many, machine, other):
        """[12]: the same things in the names, the same faults, at the places that stand for the others."""
        self.assertEqual([held for _, held in machine.calls()], [held for _, held in other.told_calls()])
        self.assertEqual([machine.things(), machine.is_over(), machine.fallen], [other.things, other.over, other.fell])
        if not other.over:
            self.assertEqual(machine.here(), stands_at(tried, many, other.here()))
        waiting = [place_in(tried, many, place) for place, _ in other.told_calls()[:-1]]
        self.assertEqual([place for place, _ in machine.calls()[:-1]], waiting)
        self.assertEqual([fault[1:] for fault in machine.faults()],
                         [(word,) + place_in(tried, many, (function, address)) + (thing,)
                          for _, word, function, address, thing in other.faults])

    def test_beside_a_trying(self):
        seen = set()
        for number, tried in enumerate(all_trieds()):
            for many in (1, 2):
                program = scheme(tried, many)
                for seed in range(3):
                    chance = random.Random(100 * number + seed)
                    machine, other, run, steps = Machine(program), TriedReference(tried), [], []
                    for at in range(40):
                        if other.over:
                            break
                        pushed = other.statement(*other.here()) == ("raise",) and other.open and other.pushed[-1] >= many
                        data = chance.choice(other.wanted())
                        place = stands_at(tried, many, other.here())
                        other.step(data)
                        run.append(data)
                        steps = self.beside(tried, many, machine, run, at, steps)
                        if pushed:
                            # The scheme has forgotten the try: its jump falls, and what is behind is not looked at.
                            self.assertEqual([steps[-1], machine.fallen], [("jump", ()), True])
                            self.assertEqual(machine.faults()[-1][1:], ("fall",) + place + (None,))
                            self.assertEqual(led(tried, many, run + [None, GO, "x"]), steps)
                            seen.add(("pushed", many))
                            break
                        self.same(tried, many, machine, other)
                    seen.add((other.fell, other.highest))
        self.assertLessEqual({("pushed", 1), ("pushed", 2), (True, 0), (True, 1), (False, 1), (False, 2), (False, 3)}, seen)

    def test_example(self):
        tried = Tried(TWICE)
        self.assertEqual(led(tried, 1, [GO, GO, GO, ("body", 0), GO]), [GO, GO, GO, GO, ("body", 0), ("jump", ())])
        self.assertEqual(led(tried, 2, [GO, GO, GO, ("body", 0), GO]), [GO] * 7 + [("body", 0), ("jump", ()), GO, GO])
        self.assertEqual(led(tried, 2, [GO, GO, GO, ("body", 1), GO]), [GO] * 7 + [("body", 1), GO, GO, GO])
        self.assertEqual(led(tried, 1, []), [])
        self.assertEqual(led(tried, 2, (GO,)), [GO, GO])

    def test_tries_with_empty_bodies(self):
        tried = main([("try", [], [])])
        self.assertEqual(led(tried, 1, [GO]), [GO, GO])
        self.assertEqual(led(tried, 2, [GO]), [GO] * 4)
        # Such a try pushes the one around it out, if there is one pushing cell.
        tried = main([("try", [("try", [], []), ("raise",)], [])])
        self.assertEqual(led(tried, 1, [GO, GO, GO, GO]), [GO] * 3 + [("jump", ())])
        self.assertEqual(led(tried, 2, [GO, GO, GO, GO]), [GO] * 6 + [("jump", ()), GO, GO, GO])

    def test_raises_that_close_more_than_one(self):
        """The other body of the inner try is empty, and the outer one's body ends with it."""
        tried = main([("try", [("try", [("raise",)], [])], [])])
        self.assertEqual(led(tried, 1, [GO, GO, GO]), [GO, GO, ("jump", ()), GO, GO])
        self.assertEqual(led(tried, 2, [GO, GO, GO]), [GO] * 4 + [("jump", ())] + [GO] * 4)

    def test_calls_that_end_in_tries(self):
        tried = main([("try", [("call", "p", "f", ())], [])], f=([], [], "x"))
        self.assertEqual(led(tried, 1, [GO, GO, GO]), [GO] * 4)
        self.assertEqual(led(tried, 2, [GO, GO, GO, GO]), [GO] * 7)

    def test_falls(self):
        tried = main([("try", [], []), ("raise",)])
        self.assertEqual(led(tried, 1, [GO, GO]), [GO, GO, ("jump", ())])
        self.assertIs(played(scheme(tried, 1), led(tried, 1, [GO, GO])).fallen, True)
        self.broken(tried, [GO, GO, GO], 2)

    def broken(self, tried, run, at):
        for many in (1, 2):
            with self.assertRaises(Broken) as held:
                led(tried, many, run)
            self.assertEqual(held.exception.at, at)

    def test_broken(self):
        for item in (None, 5, "go", (), ["go"], ("jump", ()), ("break", ()), ("body", 0), ("body", True), ("go", 1), {}, set()):
            self.broken(Tried(TWICE), [item], 0)
            self.broken(Tried(TWICE), [GO, GO, item, None], 2)
        self.broken(Tried(TWICE), [GO, GO, GO, GO], 3)
        self.broken(Tried(TWICE), [GO, GO, GO, ("body", 1), GO, GO], 5)
        self.broken(main([("loop", [])]), [("body", 0), ("body", 1)], 1)
        self.broken(main([]), [GO, GO], 1)

    def test_the_raise_itself_must_be_done(self):
        """At a try that was pushed out, too."""
        tried = main([("try", [("try", [], []), ("raise",)], [])])
        with self.assertRaises(Broken) as held:
            led(tried, 1, [GO, GO, ("body", 0), GO])
        self.assertEqual(held.exception.at, 2)
        self.assertEqual(Trying(tried).wanted(), [GO])

    def test_runs_are_not_changed(self):
        run = [GO, GO, GO, ("body", 0), GO]
        led(Tried(TWICE), 1, run).append(5)
        self.assertEqual(run, [GO, GO, GO, ("body", 0), GO])

    def test_calls_of_itself_within_a_try(self):
        run = [GO, GO, GO] + [GO, GO, ("body", 1), GO] * 4
        machine = played(scheme(Tried(DEEP_TRIED), 2), led(Tried(DEEP_TRIED), 2, run))
        trying = Trying(Tried(DEEP_TRIED))
        for data in run:
            trying.step(data)
        self.assertEqual([held for _, held in machine.calls()], [held for _, held in trying.calls()])
        self.assertGreater(len(trying.opened()), 3)

    def test_raises_to_which_no_run_comes(self):
        self.assertEqual(led(Tried(NEVER), 1, [GO, GO, GO]), [GO, GO, ("jump", ()), GO])


if __name__ == "__main__":
    unittest.main()
