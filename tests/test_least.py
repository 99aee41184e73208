"""[71], with [10] and [13]: least, cheapest and idle."""

import random
import time
import unittest

from landedback.errors import TooMany
from landedback.faultruns import is_safe
from landedback.least import cheapest, idle, least
from landedback.places import all_places
from landedback.programs import Program
from landedback.repairs import Repair, open_items, repaired
from landedback.tables import Table
from tests.reference import ARMED, DEEP, PLAN, STALE
from tests.repairing import (BROKEN, CALLED, EITHER, FALLING, TooLong, all_programs, every_repair, has_fault, items_of, main,
                             parted, small_programs)
from tests.shapes import rich_program
from tests.steadies import steady_program
from tests.test_steady import NESTED, TWO
from tests.test_tables import FUNCTIONS, NAMES, renamed_program

P = ("main", "p")
JUMP = ("either", [[("jump", "m")], []])


def wide(many):
    """A program with that many open items, all of which it needs: each name is renewed in the landing."""
    names = ["p", "q", "r", "s", "t"][:many]
    renew = [one for name in names for one in (("free", name), ("get", name))]
    free = [("free", name) for name in names]
    further = [("arm", "n"), ("rest",)] if many < 5 else []
    return main([("get", name) for name in names] + [("mark", "m", [], renew)] + further + renew + [JUMP] + free)


def spread(many):
    """A program with that many open places, at each of which a break-in falls."""
    return main([("arm", "m")] + [("use", "p")] * (many - 1) + [("rest",)])


def both(repairs):
    return [(repair.kept(), repair.shut()) for repair in repairs]


def of(items):
    repair = parted(items)
    return (repair.kept(), repair.shut())


def left_out(repair, item):
    return parted([other for other in items_of(repair) if other != item])


class Least(unittest.TestCase):

    def test_examples(self):
        self.assertEqual(both(least(Program(PLAN))), [([P], [])])
        self.assertEqual(both(least(Program(TWO))), [([("main", "p"), ("main", "q")], [])])
        self.assertEqual(both(least(Program(NESTED))), [([("f", "b"), ("main", "p")], [])])
        self.assertEqual(both(least(FALLING)), [([], [("main", (1,))])])

    def test_of_safe_programs(self):
        for program in (main([]), Program(PLAN, kept=[P]), main([("mark", "m", [], []), JUMP])):
            found = least(program)
            self.assertEqual([len(found), len(found[0])], [1, 0])
            self.assertIsInstance(found[0], Repair)

    def test_not_enough(self):
        for program in (main([("get", "p")]), main([("jump", "m")]), main([("get", "p"), ("mark", "m", [], []), ("clear", "p"), JUMP])):
            self.assertEqual(least(program), [])

    def test_several(self):
        self.assertEqual(both(least(EITHER)), [([], [("main", (2,)), ("main", (3,))]), ([P], [("main", (2,))])])
        self.assertEqual(both(least(BROKEN)), [([], [("main", (3,)), ("main", (4,)), ("main", (5,))]), ([P], [("main", (4,))])])
        self.assertEqual(both(least(CALLED)), [])

    def test_all_sets_of_open_items_by_runs(self):
        """Safe or not by the runs of a Machine."""
        looked, sizes = 0, set()
        for program in small_programs():
            repairs = every_repair(program)
            try:
                safe = [repair for repair in repairs if not has_fault(repaired(program, repair))]
            except TooLong:
                continue
            looked += 1
            expected = [repair for repair in safe if not any(left_out(repair, item) in safe for item in items_of(repair))]
            found = least(program, most=4000)
            self.assertEqual(both(found), sorted(both(expected)), program.functions())
            sizes.add(len(found))
        self.assertGreater(looked, 60)
        self.assertLessEqual({0, 1, 2}, sizes)

    def test_all_sets_of_open_items_by_tables(self):
        for program in all_programs() + [make(seed) for seed in range(30) for make in (rich_program, steady_program)]:
            if len(open_items(program, most=4000)) > 6:
                continue
            safe = [repair for repair in every_repair(program) if is_safe(repaired(program, repair), most=4000)]
            expected = [repair for repair in safe if not any(left_out(repair, item) in safe for item in items_of(repair))]
            self.assertEqual(both(least(program, most=4000)), sorted(both(expected)), program.functions())

    def test_what_is_kept_and_shut_already(self):
        self.assertEqual(both(least(EITHER.with_shut([("main", (2,))]))), [([], [("main", (3,))]), ([P], [])])
        self.assertEqual(both(least(BROKEN.with_kept([P]))), [([], [("main", (4,))])])
        self.assertEqual(both(least(BROKEN.with_kept([P]).with_shut([("main", (4,))]))), [([], [])])

    def test_new_lists(self):
        program = Program(TWO)
        found = least(program)
        found[0].kept().clear()
        found.clear()
        self.assertEqual(both(least(program)), [([("main", "p"), ("main", "q")], [])])

    def test_renamed(self):
        """[13]."""
        for seed in range(25):
            program = rich_program(seed)
            if len(open_items(program, most=4000)) <= 8:
                expected = [([(FUNCTIONS[function], NAMES[name]) for function, name in kept],
                             [(FUNCTIONS[function], address) for function, address in shut])
                            for kept, shut in both(least(program, most=4000))]
                self.assertEqual(both(least(renamed_program(program), most=4000)), sorted(expected))


class Cheapest(unittest.TestCase):

    def test_examples(self):
        for prices, price in (({}, 1), ({P: 0}, 0), ({P: 5}, 5), ({P: 10 ** 40}, 10 ** 40), ({("main", (0,)): 7}, 1),
                              ({("g", "z"): 0}, 1)):
            found = cheapest(Program(PLAN), prices)
            self.assertIsInstance(found, tuple)
            self.assertEqual([found[0], both(found[1])], [price, [([P], [])]])

    def test_of_safe_programs_and_others(self):
        self.assertEqual(cheapest(main([]), {P: 3}), (0, [Repair()]))
        self.assertIsNone(cheapest(main([("get", "p")]), {P: 0}))
        self.assertEqual(cheapest(Program(TWO), {P: 0})[0], 1)

    def test_the_least_sum(self):
        seen = set()
        for number, program in enumerate(all_programs()):
            chance = random.Random(number)
            if len(open_items(program, most=4000)) > 8:
                continue
            found = least(program, most=4000)
            items = items_of(open_items(program, most=4000)) + [("main", "zz"), ("main", (77,))]
            for _ in range(4):
                prices = {item: chance.choice((0, 0, 1, 2, 3, 10 ** 20)) for item in items if chance.random() < 0.7}
                shuffled = list(prices.items())
                chance.shuffle(shuffled)
                told = cheapest(program, dict(shuffled), most=4000)
                if not found:
                    self.assertIsNone(told)
                    continue
                sums = [sum(prices.get(item, 1) for item in items_of(repair)) for repair in found]
                self.assertEqual(told[0], min(sums))
                self.assertEqual(told[1], [repair for repair, price in zip(found, sums) if price == min(sums)])
                seen.add((len(found) > 1, len(told[1]) > 1))
        self.assertEqual(seen, {(False, False), (True, False), (True, True)})

    def test_no_cheaper_one(self):
        """Of all repairs made of open items, not only of the least ones."""
        for program in (EITHER, BROKEN):
            for prices in ({}, {P: 0}, {P: 9}, {("main", (3,)): 0, ("main", (4,)): 2}):
                sums = [sum(prices.get(item, 1) for item in items_of(repair)) for repair in every_repair(program)
                        if is_safe(repaired(program, repair))]
                self.assertEqual(cheapest(program, prices)[0], min(sums))

    def test_prices_are_not_changed(self):
        prices = {P: 3, ("main", (2,)): 0}
        cheapest(EITHER, prices)
        self.assertEqual(prices, {P: 3, ("main", (2,)): 0})
        cheapest(EITHER, prices)[1].clear()
        self.assertTrue(cheapest(EITHER, prices)[1])


class Idle(unittest.TestCase):

    def test_names(self):
        self.assertEqual(idle(Program(PLAN)), Repair())
        self.assertEqual(idle(Program(PLAN, kept=[P])), Repair())
        program = Program(PLAN, kept=[P], shut=[("main", (0,)), ("main", (2,))])
        self.assertEqual(idle(program), Repair([], [("main", (0,)), ("main", (2,))]))
        program = Program(TWO, kept=[("main", "p"), ("main", "q"), ("main", "r"), ("main", "s")])
        self.assertEqual(idle(program), Repair([("main", "r"), ("main", "s")]))
        self.assertEqual(idle(Program(TWO, kept=[("main", "p"), ("main", "r")])), Repair())
        self.assertEqual(idle(main([])), Repair())

    def test_each_one_alone(self):
        """Either of the two is idle as long as the other one is there."""
        program = EITHER.with_kept([P]).with_shut([("main", (2,)), ("main", (3,))])
        self.assertEqual(idle(program), Repair([P], [("main", (3,))]))
        program = BROKEN.with_kept([P]).with_shut([("main", (at,)) for at in (3, 4, 5)])
        self.assertEqual(idle(program), Repair([P], [("main", (3,)), ("main", (5,))]))

    def test_against_tables(self):
        seen = set()
        for number, program in enumerate(all_programs() + [rich_program(seed) for seed in range(20)]):
            chance = random.Random(number)
            names = [(function, name) for function in program.functions() for name in program.names(function)]
            for rate in (0, 0.5, 0.9, 1):
                other = program.with_kept([name for name in names if chance.random() < rate])
                other = other.with_shut([place for place in all_places(program) if chance.random() < rate])
                found = idle(other, most=4000)
                self.assertIsInstance(found, Repair)
                self.assertEqual([found.kept(), found.shut()], idle_by_tables(other))
                seen.add((is_safe(other, most=4000), bool(found.kept()), bool(found.shut())))
        self.assertLessEqual({(True, True, True), (False, False, False), (True, False, False)}, seen)

    def test_places_that_are_needed(self):
        program = FALLING.with_shut([("main", (1,)), ("main", (0,))])
        self.assertEqual(idle(program), Repair([], [("main", (0,))]))

    def test_more_than_eight_open_items(self):
        """It is not told of idle that it raises TooMany(8)."""
        program = spread(9)
        self.assertEqual(idle(program), Repair())
        program = main([("mark", "m", [], []), ("arm", "m")] + [("rest",), ("arm", "m")] * 5, "p", )
        self.assertGreater(len(open_items(program)), 5)
        self.assertEqual(idle(program.with_kept([P])), Repair([P]))


def idle_by_tables(program):
    if not is_safe(program, most=4000):
        return [[], []]
    kept, shut = program.kept(), program.shut()
    return [[item for item in kept if is_safe(program.with_kept([one for one in kept if one != item]), most=4000)],
            [item for item in shut if is_safe(program.with_shut([one for one in shut if one != item]), most=4000)]]


class Many(unittest.TestCase):

    def refused(self, act, limit):
        with self.assertRaises(TooMany) as held:
            act()
        self.assertEqual(held.exception.limit, limit)

    def test_eight_and_nine(self):
        self.assertEqual(len(open_items(spread(8))), 8)
        self.assertEqual(both(least(spread(8))), [([], [("main", (at,)) for at in range(1, 9)])])
        self.assertEqual(cheapest(spread(8), {})[0], 8)
        self.assertEqual(len(open_items(spread(9))), 9)
        self.refused(lambda: least(spread(9)), 8)
        self.refused(lambda: cheapest(spread(9), {}), 8)
        program = spread(9).with_shut([("main", (4,))])
        self.assertEqual(len(least(program)[0]), 8)
        program = wide(5)
        self.assertEqual(len(open_items(program)), 5)

    def test_rows(self):
        for program in (Program(PLAN), EITHER, Program(DEEP), spread(9)):
            many = len(Table(program))
            for act in (least, idle, lambda one, most: cheapest(one, {}, most=most)):
                for asked in (Program(program.functions()), program):
                    self.refused(lambda: act(asked, most=many - 1), many - 1)
                if len(open_items(program)) <= 8:
                    act(program, most=many)
                self.refused(lambda: act(program, most=many - 1), many - 1)
        # The table has too many rows, and there are too many open items.
        self.refused(lambda: least(spread(9), most=3), 3)
        self.refused(lambda: cheapest(spread(9), {}, most=3), 3)

    def test_a_thousand_is_what_there_may_be_at_first(self):
        program = main([("rest",)] * 1000)
        for act in (least, idle, lambda one: cheapest(one, {})):
            self.refused(lambda: act(program), 1000)
            act(main([("rest",)] * 999))

    def test_keywords(self):
        self.assertRaises(TypeError, lambda: least(EITHER, 1000))
        self.assertRaises(TypeError, lambda: idle(EITHER, 1000))
        self.assertRaises(TypeError, lambda: cheapest(EITHER, {}, 1000))

    def test_eight_open_items_are_judged_quickly(self):
        """Thirty programs with eight open items, of which there are 256 repaired ones each."""
        programs = [main([("get", "p"), ("get", "q"), ("mark", "m", [], [("free", "p"), ("get", "p")]), ("arm", "m"),
                          ("free", "q"), ("get", "q"), ("free", "p"), ("get", "p"), ("use", "q"), ("rest",),
                          ("free", "p"), ("free", "q")] + [("use", "p")] * further) for further in range(30)]
        ahead = time.process_time()
        for program in programs:
            self.assertEqual(len(open_items(program)), 8)
            least(program)
            cheapest(program, {P: 3})
        self.assertLess(time.process_time() - ahead, 1.5)


if __name__ == "__main__":
    unittest.main()
