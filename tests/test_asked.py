"""[3], with [50], [52], [53], [60] and [61]: what was asked of a Program before changes no answer."""

import itertools
import random
import time
import unittest

from landedback.errors import BackError, TooMany
from landedback.faultruns import fault_run, fewest, is_safe
from landedback.plainruns import changed, empty_uses, got_since, shared
from landedback.programs import Program
from landedback.steady import is_steady, must_keep, safe_with, unsteady
from landedback.tables import Table
from landedback.told import falls, may_hold, may_tell
from tests.reference import ARMED, CHAIN, DEEP, PLAN, STALE, programs
from tests.shapes import rich_program
from tests.steadies import steady_program
from tests.test_steady import EMPTY, NESTED, SHARED, TWO

LIMITS = (1, 2, 5, 20, 40, 120, 1000, 4000)

# The input of the issue, which is asked again and again.
AGAIN = {
    "main": ([], [("call", "a", "k", ())], "a"),
    "k": ([], [("either", [[("mark", "q", [], [("free", "f"), ("clear", "f")]), ("get", "f"), ("call", "a", "k", ()),
                            ("free", "f"), ("clear", "f")], [("jump", "q")], []])], "f"),
}


def table(program, most, **how):
    """All that a Table tells."""
    made = Table(program, most=most, **how)
    rows = made.rows()
    outcomes = [pair + (one,) for pair in made.entries() for one in made.outcomes(*pair)]
    costs = [made.cost(row) for row in rows] + [made.outcome_cost(*end) for end in outcomes]
    costs += [made.entry_cost(*pair) for pair in made.entries()]
    places = sorted({(row[0], row[2]) for row in rows})
    at = [made.rows_at(*place) for place in places]
    inside = [row in made for row in rows] + [(row[0], row[1], (99,), row[3]) in made for row in rows[:1]]
    return [rows, made.entries(), outcomes, costs, at, inside, made.faults(), len(made)]


ASKED = {
    "got_since": lambda program, most: got_since(program, most=most),
    "changed": lambda program, most: changed(program, most=most),
    "shared": lambda program, most: shared(program, most=most),
    "empty_uses": lambda program, most: empty_uses(program, most=most),
    "unsteady": lambda program, most: unsteady(program, most=most),
    "is_steady": lambda program, most: is_steady(program, most=most),
    "must_keep": lambda program, most: must_keep(program, most=most),
    "safe_with nothing": lambda program, most: safe_with(program, [], most=most),
    "safe_with all": lambda program, most: safe_with(program, all_names(program), most=most),
    "safe_with none": lambda program, most: safe_with(program, [("main", "zzz")], most=most),
    "is_safe": lambda program, most: is_safe(program, most=most),
    "fewest": lambda program, most: fewest(program, most=most),
    "fewest plain": lambda program, most: fewest(program, most=most, plain=True),
    "fault_run": lambda program, most: fault_run(program, most=most),
    "falls": lambda program, most: falls(program, most=most),
    "may_tell": lambda program, most: [may_tell(program, ("main", (0,)), cell, most=most) for cell in program.cells()],
    "may_hold": lambda program, most: may_hold(program, ("main", (0,)), program.names("main")[0], most=most),
    "Table": table,
    "Table plain": lambda program, most: table(program, most, plain=True),
    "Table nothing": lambda program, most: table(program, most, nothing=True),
    "Table plain nothing": lambda program, most: table(program, most, plain=True, nothing=True),
}


def all_names(program):
    return [(function, name) for function in program.functions() for name in program.names(function)]


def told(word, program, most):
    """What is told, or the error, as a value."""
    try:
        return ASKED[word](program, most)
    except BackError as error:
        return (error.__class__.__name__, vars(error))


def spoiled(thing):
    """Changes a list, and the lists in it."""
    if isinstance(thing, list):
        for item in thing:
            spoiled(item)
        thing.append("spoiled")
        thing.reverse()


def made_again(program):
    """An equal Program that was made apart, of which nothing was asked."""
    return Program(program.functions(), kept=program.kept(), shut=program.shut())


def every_program():
    found = [Program(functions) for functions in (PLAN, DEEP, ARMED, STALE, CHAIN, TWO, NESTED, SHARED, EMPTY, AGAIN)]
    found += programs()[6:]
    return found + [make(seed) for seed in range(6) for make in (rich_program, steady_program)]


class Asked(unittest.TestCase):

    def fresh(self, program):
        """What each question with each limit is told of a Program that is asked for the first time."""
        return {(word, most): told(word, made_again(program), most) for word in ASKED for most in LIMITS}

    def ask_all(self, program, questions, expected):
        for word, most in questions:
            found = told(word, program, most)
            self.assertEqual(found, expected[word, most], (word, most, program.functions()))
            spoiled(found)

    def test_orders_and_limits(self):
        for number, program in enumerate(every_program()):
            expected = self.fresh(program)
            chance = random.Random(number)
            rising = [(word, most) for most in LIMITS for word in ASKED]
            mixed = rising * 2
            chance.shuffle(mixed)
            for questions in (rising, rising[::-1], mixed):
                self.ask_all(made_again(program), questions, expected)
            self.assertEqual(program, made_again(program))

    def test_just_as_many_rows(self):
        """A limit that is just enough, and one less, whichever was asked first."""
        for program in (Program(functions) for functions in (PLAN, DEEP, CHAIN, NESTED, AGAIN)):
            for how in ({}, {"plain": True}, {"nothing": True}, {"plain": True, "nothing": True}):
                many = len(Table(made_again(program), **how))
                for limits in itertools.permutations((many - 1, many, many + 1, 1)):
                    asked = made_again(program)
                    for most in limits:
                        if most >= many:
                            self.assertEqual(len(Table(asked, most=most, **how)), many)
                        else:
                            with self.assertRaises(TooMany) as held:
                                Table(asked, most=most, **how)
                            self.assertEqual(held.exception.limit, most)

    def test_the_table_that_follows_a_thing_goes_ahead(self):
        """Whichever of both tables has more rows than the limit, it is the same error."""
        for program in (Program(NESTED), Program(PLAN), Program(TWO)):
            sizes = [len(Table(program.with_kept([]), plain=True, nothing=nothing)) for nothing in (False, True)]
            for most in (min(sizes) - 1, max(sizes) - 1):
                asked = made_again(program)
                got_since(asked)
                for act in (empty_uses, unsteady, is_steady, must_keep):
                    with self.assertRaises(TooMany) as held:
                        act(asked, most=most)
                    self.assertEqual(held.exception.limit, most)
                    self.assertEqual(act(asked), act(made_again(program)))

    def test_a_table_stays_as_it_is(self):
        for program in (Program(AGAIN), Program(DEEP)):
            first = Table(program)
            rows, faults = first.rows(), first.faults()
            for word in ASKED:
                told(word, program, 10)
                told(word, program, 4000)
            self.assertEqual([first.rows(), first.faults()], [rows, faults])
            self.assertEqual(first.cost(rows[-1]), Table(made_again(program)).cost(rows[-1]))

    def test_programs_of_a_program(self):
        """What was asked of a Program says nothing of those that are made of it."""
        for program in (Program(PLAN), Program(TWO), Program(NESTED), Program(ARMED)):
            for word in ASKED:
                told(word, program, 1000)
            for names in ([], all_names(program)[:1], all_names(program)):
                other = program.with_kept(names)
                again = Program(program.functions(), kept=names, shut=program.shut())
                self.assertEqual([told(word, other, 1000) for word in ASKED], [told(word, again, 1000) for word in ASKED])
            other = program.with_shut([("main", (0,)), ("main", (2,))])
            again = Program(program.functions(), kept=program.kept(), shut=[("main", (0,)), ("main", (2,))])
            self.assertEqual([told(word, other, 1000) for word in ASKED], [told(word, again, 1000) for word in ASKED])
            self.assertEqual([told(word, program, 1000) for word in ASKED],
                             [told(word, made_again(program), 1000) for word in ASKED])

    def test_equal_by_what_they_are(self):
        """[22]: what was asked of a Program is no part of it."""
        for program in (Program(PLAN), Program(TWO)):
            asked = made_again(program)
            for word in ASKED:
                told(word, asked, 4000)
            self.assertTrue(asked == program and program == asked)
            self.assertFalse(asked == asked.with_kept([("main", "p")]))

    def test_new_lists_each_time(self):
        program = Program(TWO)
        for act in (got_since, changed, must_keep, empty_uses, shared):
            self.assertIsNot(act(program), act(program))
        for one in (Table(program), Table(program, plain=True)):
            self.assertIsNot(one.rows(), one.rows())
            self.assertIsNot(one.faults(), one.faults())
            self.assertIsNot(one.entries(), one.entries())

    def test_asking_again_is_quick(self):
        """Two thousand questions of one Program, each of which would grow two tables of more than a hundred rows."""
        program = Program(AGAIN)
        ahead = time.process_time()
        for _ in range(500):
            for act in (unsteady, is_steady, got_since, empty_uses):
                act(program, most=120)
        self.assertLess(time.process_time() - ahead, 0.4)


if __name__ == "__main__":
    unittest.main()
