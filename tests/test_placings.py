"""[31]: Placing, and the runs in which a placing tells what comes back."""

import copy
import unittest

from landedback.errors import BadPlacing, BackError, Broken, Nothing, Over, Unfit, Wrong
from landedback.machine import Machine
from landedback.placings import Placing, placed
from landedback.programs import Program
from tests.reference import ARMED, DEEP, PLAN

GO = ("go",)
JUMP = ("jump", ())
PLAN_RUN = [GO, GO, GO, ("body", 0), JUMP]

# A jump back to a mark, again and again, in a call with the loose names p, q and r.
AGAIN = {"main": ([], [("get", "p"), ("mark", "m", [("get", "q"), ("take", "r", "q")], []), ("jump", "m")], "p")}
AGAIN_RUN = [GO, GO, GO, GO, JUMP, JUMP, JUMP]


class Table(unittest.TestCase):

    def test_table(self):
        placing = Placing({("main", (1,)): ["q", "p"], ("f", (0, 1, 2)): ("a",), ("f", (0,)): [], ("g", (7,)): ()})
        self.assertEqual(placing("main", (1,), ("p", "q", "r")), ("p", "q"))
        self.assertEqual(placing("main", (1,), ("q", "r")), ("q",))
        self.assertEqual(placing("main", (1,), ()), ())
        self.assertEqual(placing("main", (1,), ("r", "z")), ())
        self.assertEqual(placing("f", (0, 1, 2), ("a", "b")), ("a",))
        self.assertEqual(placing("f", (0,), ("a", "b")), ())
        self.assertEqual(placing("g", (7,), ("a", "b")), ())
        self.assertEqual(placing("main", (2,), ("p", "q")), ())
        self.assertEqual(placing("f", (1,), ("p", "q")), ())
        self.assertIsInstance(placing("main", (1,), ("p",)), tuple)

    def test_static(self):
        for names in ((), ("p",), ("a", "p", "q")):
            for function, address in (("main", (0,)), ("f", (0, 1, 0))):
                self.assertEqual(Placing.nothing()(function, address, names), ())
                self.assertEqual(Placing.everything()(function, address, names), names)
        self.assertIsInstance(Placing.nothing(), Placing)
        self.assertIsInstance(Placing.everything(), Placing)

    def test_empty_table(self):
        self.assertEqual(Placing({})("main", (0,), ("p",)), ())

    def test_wrong(self):
        at = ("main", (0,))
        wrong = [
            None, True, 0, "", "main", [], (), set(), object(), [(at, ["p"])], Placing, len,
            {"main": ["p"]}, {1: ["p"]}, {None: ["p"]}, {("main",): ["p"]}, {("main", (0,), 0): ["p"]},
            {("main", 0): ["p"]}, {("main", ()): ["p"]}, {("main", (0, 0)): ["p"]}, {("main", (-1,)): ["p"]},
            {("main", (True,)): ["p"]}, {("main", ("0",)): ["p"]}, {("", (0,)): ["p"]}, {("Main", (0,)): ["p"]},
            {(0, (0,)): ["p"]}, {("abcdefghi", (0,)): ["p"]}, {("main", (0, False, 0)): ["p"]}, {((0,), "main"): ["p"]},
            {at: None}, {at: "p"}, {at: ""}, {at: {"p"}}, {at: {"p": 1}}, {at: 0}, {at: ["p", "p"]}, {at: ("q", "p", "q")},
            {at: [""]}, {at: ["P"]}, {at: [0]}, {at: [True]}, {at: [None]}, {at: [["p"]]}, {at: [("p",)]}, {at: ["abcdefghi"]},
            {at: ["p"], "main": ["p"]}, {at: ["p"], ("f", (0,)): 0},
        ]
        for table in wrong:
            with self.assertRaises(Wrong) as held:
                Placing(table)
            self.assertEqual(held.exception.place, 0, repr(table))

    def test_copies(self):
        names = ["p"]
        table = {("main", (1,)): names}
        placing = Placing(table)
        names.append("q")
        table[("main", (2,))] = ["p"]
        self.assertEqual(placing("main", (1,), ("p", "q")), ("p",))
        self.assertEqual(placing("main", (2,), ("p", "q")), ())
        self.assertEqual(table, {("main", (1,)): ["p", "q"], ("main", (2,)): ["p"]})


class Asked:
    """A placing that tells answers one after another, and notes what it was asked."""

    def __init__(self, *answers):
        self.answers = list(answers)
        self.asked = []

    def __call__(self, function, address, names):
        self.asked.append((function, address, names))
        answer = self.answers.pop(0)
        if isinstance(answer, BaseException):
            raise answer
        return answer


class Placed(unittest.TestCase):

    def test_plain_and_all(self):
        program = Program(PLAN)
        self.assertEqual(placed(program, PLAN_RUN, Placing.nothing()).run(), PLAN_RUN)
        machine = placed(program, PLAN_RUN, Placing.everything())
        self.assertEqual(machine.run(), PLAN_RUN[:4] + [("jump", ("p",))])
        self.assertEqual(machine.faults(), [(4, "lost", "main", (1,), 0)])
        self.assertIsInstance(machine, Machine)
        self.assertEqual(placed(program, PLAN_RUN, Placing({("main", (1,)): ["p", "z"]})), machine)
        self.assertEqual(placed(program, PLAN_RUN, Placing({("main", (0,)): ["p"]})).faults(), [])

    def test_no_steps(self):
        self.assertEqual(placed(Program(PLAN), [], Asked()), Machine(Program(PLAN)))

    def test_goes_on_by_itself(self):
        machine = placed(Program(PLAN), PLAN_RUN[:4], Placing.nothing())
        self.assertEqual(machine.step(("jump", ("p",))), [("lost", "main", (1,), 0)])
        while len(machine):
            machine.back()
        self.assertRaises(Nothing, machine.back)

    def test_asked_once_for_each_landing(self):
        asked = Asked(("q",), (), ("p", "q", "r"))
        machine = placed(Program(AGAIN), AGAIN_RUN, asked)
        self.assertEqual(asked.asked, [("main", (1,), ("p", "q", "r"))] * 3)
        self.assertEqual(machine.run(), AGAIN_RUN[:4] + [("jump", ("q",)), JUMP, ("jump", ("p", "q", "r"))])

    def test_loose_names_alone(self):
        asked = Asked(("p",), (), ())
        placed(Program(AGAIN, kept=[("main", "q")]), AGAIN_RUN, asked)
        self.assertEqual(asked.asked, [("main", (1,), ("p", "r"))] * 3)
        with self.assertRaises(BadPlacing) as held:
            placed(Program(AGAIN, kept=[("main", "q")]), AGAIN_RUN, Asked((), ("q",)))
        self.assertEqual(held.exception.at, 5)

    def test_of_the_call_of_the_mark(self):
        run = [GO, GO, GO, ("body", 0), GO, GO, ("body", 1), GO, JUMP]
        asked = Asked(("p", "q"))
        machine = placed(Program(DEEP), run, asked)
        self.assertEqual(asked.asked, [("main", (1,), ("p", "q"))])
        self.assertEqual(machine.here(), ("main", (1, 1, 0)))

    def test_break_ins(self):
        program = Program(ARMED)
        run = [GO, GO, GO, ("within", ()), GO, GO, GO, ("break", ())]
        asked = Asked(("p",), ("q",))
        machine = placed(program, run, asked)
        self.assertEqual(asked.asked, [("main", (0,), ("p", "q"))] * 2)
        self.assertEqual(machine.run(), run[:3] + [("within", ("p",))] + run[4:7] + [("break", ("q",))])

    def test_not_asked_for_falls(self):
        asked = Asked()
        program = Program({"main": ([], [("arm", "m"), ("get", "p"), ("jump", "m")], "p")})
        for run in ([GO, ("break", ())], [GO, ("within", ())], [GO, GO, JUMP]):
            self.assertTrue(placed(program, run, asked).fallen)
        self.assertEqual(asked.asked, [])

    def test_a_function_as_a_placing(self):
        machine = placed(Program(AGAIN), AGAIN_RUN, lambda function, address, names: names[1:])
        self.assertEqual(machine.run()[4:], [("jump", ("q", "r"))] * 3)

    def test_nothing_is_changed(self):
        program, run = Program(AGAIN), list(AGAIN_RUN)
        placed(program, run, Placing.everything())
        self.assertEqual([run, program], [AGAIN_RUN, Program(AGAIN)])

    def test_choices_that_the_placing_changes(self):
        run = list(AGAIN_RUN)

        def placing(function, address, names):
            run.clear()
            return ()

        self.assertEqual(placed(Program(AGAIN), run, placing).run(), AGAIN_RUN)


class Errors(unittest.TestCase):

    def broken(self, program, choices, at, asked=None):
        with self.assertRaises(Broken) as held:
            placed(program, choices, asked if asked is not None else Placing.everything())
        self.assertEqual(held.exception.at, at)

    def test_broken(self):
        program = Program(PLAN)
        for item in (None, True, 0, "go", [], ["go"], (), ("go", ()), ("body", 0), ("body", True), ("stop",), {}, object(),
                     JUMP, ("jump", []), ("break", ()), ("within", ()), ("jump", None), [GO]):
            for at in range(3):
                self.broken(program, [GO] * at + [item, GO], at)
        self.broken(program, PLAN_RUN[:3] + [("body", True)], 3)
        self.broken(program, PLAN_RUN[:3] + [("body", False)], 3)
        self.broken(program, PLAN_RUN[:4] + [GO], 4)
        self.broken(program, PLAN_RUN[:4] + [("jump", [])], 4)

    def test_broken_where_it_is_over(self):
        empty = Program({"main": ([], [], "p")})
        self.broken(empty, [GO, GO], 1)
        self.broken(empty, [GO, JUMP, GO], 1)
        fallen = Program({"main": ([], [("jump", "m")], "p")})
        self.broken(fallen, [JUMP, JUMP], 1)

    def test_names_in_choices(self):
        self.broken(Program(PLAN), PLAN_RUN[:4] + [("jump", ("p",))], 4, Asked())

    def test_bad_answers(self):
        wrong = [None, True, False, 0, "p", "", [], ["p"], {}, {"p"}, object(), ("p", "p"), ("q", "p"), ("z",), ("p", "z"),
                 (0,), (None,), (True,), (["p"],), (("p",),), ("",), ("p", 1), ("r", "q"), ({},)]
        for answer in wrong:
            for at in range(3):
                asked = Asked(*([()] * at + [answer, ()]))
                with self.assertRaises(BadPlacing) as held:
                    placed(Program(AGAIN), AGAIN_RUN, asked)
                self.assertEqual(held.exception.at, 4 + at, repr(answer))
                self.assertEqual(len(asked.asked), at + 1)

    def test_an_answer_equal_to_all(self):
        class Same:
            __hash__ = None

            def __eq__(self, other):
                return True

        for answer in (Same(), (Same(),)):
            self.assertRaises(BadPlacing, placed, Program(AGAIN), AGAIN_RUN, Asked(answer))

    def test_what_it_raises_goes_on(self):
        class Own(BaseException):
            pass

        for error in (Own(), KeyError("x"), Over(), Unfit(), Broken(77), BadPlacing(78), Nothing(), ValueError(), BackError()):
            asked = Asked((), error)
            with self.assertRaises(BaseException) as held:
                placed(Program(AGAIN), AGAIN_RUN, asked)
            self.assertIs(held.exception, error)
            self.assertEqual(len(asked.asked), 2)

    def test_the_first_error(self):
        bad = AGAIN_RUN[:5] + [None]
        with self.assertRaises(BadPlacing) as held:
            placed(Program(AGAIN), bad, Asked(None))
        self.assertEqual(held.exception.at, 4)
        asked = Asked(())
        self.broken(Program(AGAIN), bad + AGAIN_RUN, 5, asked)
        self.assertEqual(len(asked.asked), 1)
        asked = Asked()
        self.broken(Program(AGAIN), AGAIN_RUN[:3] + [None] + AGAIN_RUN[4:], 3, asked)
        self.assertEqual(asked.asked, [])
        with self.assertRaises(KeyError):
            placed(Program(AGAIN), bad, Asked(KeyError()))

    def test_nothing_is_changed(self):
        program, run = Program(AGAIN), copy.deepcopy(AGAIN_RUN)
        self.assertRaises(BadPlacing, placed, program, run, Asked(None))
        self.assertRaises(Broken, placed, program, run + [None], Placing.nothing())
        self.assertEqual([run, program], [AGAIN_RUN, Program(AGAIN)])


if __name__ == "__main__":
    unittest.main()
