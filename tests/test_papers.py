"""[72], with [10] and [13]: paper and is_paper."""

import unittest

from landedback.errors import TooMany
from landedback.faultruns import fewest, is_fault_run, is_safe
from landedback.least import least
from landedback.papers import is_paper, paper
from landedback.programs import Program
from landedback.repairs import Repair, open_items, repaired
from landedback.tables import Table
from tests.reference import DEEP, PLAN
from tests.repairing import BROKEN, CALLED, EITHER, FALLING, all_programs, every_repair, items_of, main, parted
from tests.shapes import rich_program
from tests.steadies import steady_program
from tests.test_faultruns import long_program
from tests.test_least import both, spread
from tests.test_repairs import VALUES
from tests.test_steady import TWO
from tests.test_tables import FUNCTIONS, NAMES, renamed_program

P = ("main", "p")
GO = ("go",)
SHUT = [("main", (3,)), ("main", (4,)), ("main", (5,))]


def judged_programs():
    found = all_programs() + [make(seed) for seed in range(30) for make in (rich_program, steady_program)]
    return [program for program in found if len(open_items(program, most=4000)) <= 6]


class Paper(unittest.TestCase):

    def test_example(self):
        goods, bads = paper(Program(PLAN))
        self.assertEqual(both(goods), [([P], [])])
        self.assertEqual([both([repair]) + [run] for repair, run in bads],
                         [[([], []), [GO, GO, GO, ("body", 0), ("jump", ("p",))]]])
        self.assertIsInstance(paper(Program(PLAN)), tuple)

    def test_safe_ones_and_others(self):
        self.assertEqual(paper(main([])), ([Repair()], []))
        goods, bads = paper(main([("get", "p")]))
        self.assertEqual([goods, len(bads), bads[0][0], bads[0][1]], [[], 1, Repair(), [GO, GO]])
        goods, bads = paper(main([("get", "p"), ("mark", "m", [], []), ("clear", "p"), ("either", [[("jump", "m")], []])]))
        self.assertEqual([goods, [repair for repair, _ in bads]], [[], [Repair([P])]])

    def test_greatest_that_do_not_do(self):
        for program in judged_programs():
            goods, bads = paper(program, most=4000)
            self.assertEqual(both(goods), both(least(program, most=4000)))
            repairs = every_repair(program)
            unsafe = [repair for repair in repairs if not is_safe(repaired(program, repair), most=4000)]
            greatest = [one for one in unsafe if not any(one.within(other) and one != other for other in unsafe)]
            self.assertEqual(both([repair for repair, _ in bads]), sorted(both(greatest)), program.functions())
            for repair, run in bads:
                other = repaired(program, repair)
                self.assertIs(is_fault_run(other, run), True)
                self.assertIs(is_fault_run(other, run[:-1]), False)
                self.assertEqual(len(run), fewest(other, most=4000))
                self.assertIsInstance(run, list)
            self.assertIs(is_paper(program, goods, bads, most=4000), True)

    def test_new_lists(self):
        for program in (Program(PLAN), EITHER):
            goods, bads = paper(program)
            run = list(bads[0][1])
            goods.clear()
            bads[0][1].clear()
            bads.clear()
            goods, bads = paper(program)
            self.assertEqual([both(goods), bads[0][1]], [both(least(program)), run])

    def test_renamed(self):
        """[13]; which runs are told is not specified."""
        for seed in range(25):
            program = rich_program(seed)
            if len(open_items(program, most=4000)) <= 8:
                other = renamed_program(program)
                _, bads = paper(program, most=4000)
                _, found = paper(other, most=4000)
                expected = [([(FUNCTIONS[function], NAMES[name]) for function, name in kept],
                             [(FUNCTIONS[function], address) for function, address in shut])
                            for kept, shut in both([repair for repair, _ in bads])]
                self.assertEqual(both([repair for repair, _ in found]), sorted(expected))


class IsPaper(unittest.TestCase):

    def test_parts_in_another_order_and_twice(self):
        for program in judged_programs():
            goods, bads = paper(program, most=4000)
            self.assertIs(is_paper(program, goods[::-1], bads[::-1], most=4000), True)
            self.assertIs(is_paper(program, goods * 2, bads + bads[:1], most=4000), True)

    def test_one_left_out(self):
        seen = set()
        for program in judged_programs():
            goods, bads = paper(program, most=4000)
            for at in range(len(goods)):
                self.assertIs(is_paper(program, goods[:at] + goods[at + 1:], bads, most=4000), False)
            for at in range(len(bads)):
                self.assertIs(is_paper(program, goods, bads[:at] + bads[at + 1:], most=4000), False)
            seen.add((len(goods) > 1, len(bads) > 1))
        self.assertEqual(len(seen), 4)

    def test_all_repairs_are_a_paper(self):
        """Goods need not be least, bads not greatest, and runs not shortest."""
        for program in (EITHER, BROKEN, Program(PLAN), FALLING):
            repairs = every_repair(program)
            _, least_bads = paper(program)
            goods = [repair for repair in repairs if is_safe(repaired(program, repair))]
            bads = []
            for repair in repairs:
                if repair not in goods:
                    run = next(run for other, run in least_bads if repair.within(other))
                    bads.append((repair, run))
            self.assertIs(is_paper(program, goods, bads), True)
            for at, repair in enumerate(goods):
                others = [other for other in goods if not other.within(repair)]
                self.assertIs(is_paper(program, others, bads), False)

    def test_goods_with_other_items(self):
        """They are safe, but no part of a repair made of open items."""
        goods, bads = paper(EITHER)
        other = Repair([], [("main", (0,))])
        self.assertIs(is_paper(EITHER, goods + [goods[0] | other], bads), True)
        self.assertIs(is_paper(EITHER, [goods[0] | other] + goods[1:], bads), False)
        safe = main([("get", "p"), ("free", "p")])
        self.assertIs(is_paper(safe, [Repair()], []), True)
        self.assertIs(is_paper(safe, [Repair([P])], []), False)
        self.assertIs(is_paper(safe, [], []), False)

    def test_bads_with_other_items(self):
        goods, bads = paper(EITHER)
        more = [(repair | Repair([], [("main", (0,)), ("main", (5,))]), run) for repair, run in bads]
        self.assertIs(is_paper(EITHER, goods, more), True)

    def test_what_is_kept_already(self):
        program = Program(TWO, kept=[("main", "p")])
        goods, bads = paper(program)
        self.assertEqual(both(goods), [([("main", "q")], [])])
        self.assertIs(is_paper(program, goods, [(repair | Repair([P]), run) for repair, run in bads]), True)

    def test_items_that_the_program_has_not(self):
        goods, bads = paper(EITHER)
        for stranger in (Repair([("main", "zz")]), Repair([("g", "p")]), Repair([], [("main", (99,))]),
                         Repair([], [("main", (2, 0, 0))]), Repair([], [("g", (0,))])):
            self.assertIs(is_paper(EITHER, goods + [goods[0] | stranger], bads), False)
            self.assertIs(is_paper(EITHER, goods, bads + [(bads[0][0] | stranger, bads[0][1])]), False)
            self.assertIs(is_paper(EITHER, goods + [stranger], bads), False)

    def test_repairs_that_do_not_do_and_that_do(self):
        goods, bads = paper(EITHER)
        self.assertIs(is_paper(EITHER, goods + [Repair()], bads), False)
        self.assertIs(is_paper(EITHER, goods + [bads[0][0]], bads), False)
        self.assertIs(is_paper(EITHER, goods, bads + [(goods[0], bads[0][1])]), False)
        self.assertIs(is_paper(EITHER, goods, [(goods[0], run) for _, run in bads]), False)

    def test_runs(self):
        goods, bads = paper(EITHER)
        repair, run = bads[0]
        for other in (run[:-1], [], (), run[1:], run + [GO] * 99, None, 5, "go", [None], [[]], [("go", 1)], {}, set(), object(),
                      [("body", True)]):
            if not is_fault_run(repaired(EITHER, repair), other):
                self.assertIs(is_paper(EITHER, goods, [(repair, other)] + bads[1:]), False)
                self.assertIs(is_paper(EITHER, goods, bads + [(repair, other)]), False)
        self.assertIs(is_paper(EITHER, goods, [(repair, tuple(run))] + bads[1:]), True)
        # A fault of the program that the repair takes away.
        found = paper(Program(PLAN))[1][0][1]
        self.assertIs(is_paper(Program(PLAN), [Repair([P])], [(Repair(), found)]), True)
        self.assertIs(is_paper(Program(PLAN), [Repair([P])], [(Repair([P]), found)]), False)

    def test_any_values(self):
        for program in (EITHER, main([])):
            goods, bads = paper(program)
            for thing in VALUES + [tuple(goods), tuple(bads), {0: goods}, "goods"]:
                if thing == [] and program != EITHER:
                    continue
                self.assertIs(is_paper(program, thing, bads), False, repr(thing))
                if thing != []:
                    self.assertIs(is_paper(program, goods, thing), False, repr(thing))
                    self.assertIs(is_paper(program, goods + [thing] if not isinstance(thing, Repair) else 5, bads), False)
                    self.assertIs(is_paper(program, goods, bads + [thing]), False)
        goods, bads = paper(EITHER)
        repair, run = bads[0]
        for thing in ([repair, run], (repair,), (repair, run, run), (run, repair), ((repair, run),), (repair.kept(), run),
                      (None, run), (repair, None)):
            self.assertIs(is_paper(EITHER, goods, bads + [thing]), False, repr(thing))
        for thing in (goods[0].kept(), (goods[0].kept(), goods[0].shut()), [goods[0]], goods[0].kept()[:1]):
            self.assertIs(is_paper(EITHER, goods + [thing], bads), False)

    def test_nothing_is_changed(self):
        goods, bads = paper(EITHER)
        is_paper(EITHER, goods, bads)
        self.assertEqual([both(goods), len(bads)], [both(least(EITHER)), len(paper(EITHER)[1])])


class Many(unittest.TestCase):

    def refused(self, act, limit):
        with self.assertRaises(TooMany) as held:
            act()
        self.assertEqual(held.exception.limit, limit)

    def test_eight_and_nine(self):
        goods, bads = paper(spread(8))
        self.assertEqual([len(goods), len(bads)], [1, 8])
        self.assertIs(is_paper(spread(8), goods, bads), True)
        self.assertIs(is_paper(spread(8), goods, bads[1:]), False)
        for act in (lambda: paper(spread(9)), lambda: is_paper(spread(9), [], []), lambda: is_paper(spread(9), None, 5)):
            self.refused(act, 8)

    def test_rows(self):
        for program in (Program(PLAN), EITHER, CALLED, Program(DEEP), spread(9)):
            many = len(Table(program))
            for asked in (Program(program.functions()), program):
                self.refused(lambda: paper(asked, most=many - 1), many - 1)
                self.refused(lambda: is_paper(asked, None, [], most=many - 1), many - 1)
            if len(open_items(program)) <= 8:
                goods, bads = paper(program, most=many)
                self.assertIs(is_paper(program, goods, bads, most=many), True)
                self.refused(lambda: paper(program, most=many - 1), many - 1)

    def test_two_hundred_steps(self):
        program = long_program(0)
        further = 200 - fewest(program)
        self.assertEqual(len(paper(long_program(further))[1][0][1]), 200)
        self.refused(lambda: paper(long_program(further + 1)), 200)
        # So it is of a repaired program, though the program itself has a shorter run.
        tidy = [("free", "p"), ("clear", "p")]
        ahead = [("mark", "m", [], tidy), ("get", "p"), ("either", [[("jump", "m")], []])] + tidy
        for further, most in ((0, 200), (1, 201)):
            program = main(ahead + [("rest",)] * (95 + further) + [("call", "x", "f", ())] * 2 + [("get", "q")],
                           f=([], [("rest",)] * 47, "y"))
            self.assertEqual(fewest(program), 4)
            self.assertEqual(fewest(repaired(program, open_items(program))), most)
            if most == 200:
                self.assertEqual(sorted(len(run) for _, run in paper(program)[1])[-1], 200)
            else:
                self.refused(lambda: paper(program), 200)
                goods, bads = [], [(open_items(program), [GO, GO, ("body", 1)] + [GO] * 198)]
                self.assertIs(is_paper(program, goods, bads), True)

    def test_keywords(self):
        self.assertRaises(TypeError, lambda: paper(EITHER, 1000))
        self.assertRaises(TypeError, lambda: is_paper(EITHER, [], [], 1000))


if __name__ == "__main__":
    unittest.main()
