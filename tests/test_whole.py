"""What holds over the whole of the program: [3], [9], [10], [13], and that all ways to a program lead to equal ones."""

import random
import unittest

from landedback.book import Book
from landedback.desk import Desk
from landedback.least import cheapest, idle
from landedback.machine import Machine
from landedback.notation import read_program, read_statement, show_program, show_run, show_statement
from landedback.papers import is_paper, paper
from landedback.places import all_places
from landedback.programs import Program
from landedback.pushed import is_right, most_open
from landedback.repairs import Repair, open_items, repaired
from landedback.runs import faults_of, is_run, plainly, played
from landedback.schemes import place_in, scheme
from landedback.tables import Table
from tests.reference import programs
from tests.repairing import every_repair, items_of, parted
from tests.shapes import rich_program
from tests.steadies import steady_program
from tests.test_pushed import renamed
from tests.test_tables import FUNCTIONS, NAMES, renamed_program
from tests.trieds import tried_program


def every_program():
    return programs() + [make(seed) for seed in range(25) for make in (rich_program, steady_program)]


def some_repair(chance, program):
    names = [(function, name) for function in program.functions() for name in program.names(function)]
    items = names + all_places(program)
    return parted([item for item in items if chance.random() < 0.3])


def chance_run(chance, program, many=40):
    machine = Machine(program)
    while machine.wanted() and len(machine) < many:
        machine.step(chance.choice(machine.wanted()))
    return machine.run()


class Ways(unittest.TestCase):

    def test_all_ways_lead_to_equal_programs(self):
        for number, program in enumerate(every_program()):
            repair = some_repair(random.Random(number), program)
            kept = [item for item in repair.kept() if item not in program.kept()]
            shut = [item for item in repair.shut() if item not in program.shut()]
            book, desk = Book(program), Desk(program)
            for word, items in (("keep", kept), ("shut", shut)):
                for function, part in items[:30]:
                    book.do((word, function, part))
                    told = part if word == "keep" else ".".join(map(str, part))
                    self.assertEqual(desk.execute(f"{word} {function} {told}"), "-")
            kept, shut = kept[:30], shut[:30]
            found = [repaired(program, Repair(kept, shut)), book.program(), read_program(desk.execute("program")), book.past(len(book)),
                     program.with_kept(program.kept() + kept).with_shut(program.shut() + shut),
                     program.with_shut(shut + program.shut()).with_kept(kept + program.kept()),
                     Program(program.functions(), kept=kept + program.kept(), shut=program.shut() + shut),
                     read_program(show_program(book.program())), book.copied().program()]
            for one in found:
                for other in found:
                    self.assertTrue(one == other)
            tables = [Table(one, most=4000) for one in found[:4]]
            for table in tables:
                self.assertEqual([table.rows(), table.faults()], [tables[0].rows(), tables[0].faults()])

    def test_programs_that_a_book_made_are_asked_as_others(self):
        for number, program in enumerate(every_program()[:20]):
            book = Book(program)
            for function, name in [(function, name) for function in program.functions() for name in program.loose_names(function)]:
                book.do(("keep", function, name))
                again = Program(program.functions(), kept=book.program().kept(), shut=program.shut())
                self.assertEqual(Table(book.program(), most=4000).faults(), Table(again, most=4000).faults())
            self.assertEqual(book.past(0), program)


class Repaired(unittest.TestCase):

    def test_runs_of_repaired_programs(self):
        """[10]: they are runs of the program, with the same faults."""
        for number, program in enumerate(every_program()):
            chance = random.Random(number)
            for _ in range(3):
                other = repaired(program, some_repair(chance, program))
                run = chance_run(chance, other)
                self.assertIs(is_run(program, run), True)
                self.assertEqual(faults_of(program, run), faults_of(other, run))

    def test_control(self):
        """[9]: a plain run is one of all programs that differ in what is kept alone, and falls alike."""
        for number, program in enumerate(every_program()):
            chance = random.Random(number)
            run = plainly(program, chance_run(chance, program))
            kept = some_repair(chance, program).kept()
            one, other = played(program, run), played(program.with_kept(kept), run)
            self.assertEqual([place for place, _ in one.calls()], [place for place, _ in other.calls()])
            self.assertEqual([one.fallen, one.armed(), one.calls(), one.faults()], [other.fallen, other.armed(), other.calls(), other.faults()])
            for told, found in zip(one.cells().values(), other.cells().values()):
                self.assertEqual(told[:2] if isinstance(told, tuple) else told, found[:2] if isinstance(found, tuple) else found)

    def test_open_items_of_repaired_programs(self):
        """[9]: keeping names opens and shuts no place."""
        for program in every_program():
            found = open_items(program, most=4000)
            names = [(function, name) for function in program.functions() for name in program.names(function)]
            kept = repaired(program, Repair(names))
            self.assertEqual([open_items(kept, most=4000).kept(), open_items(kept, most=4000).shut()], [[], found.shut()])
            again = open_items(repaired(program, Repair(found.kept(), [])), most=4000)
            self.assertEqual([again.kept(), again.shut()], [[], found.shut()])


class Renamed(unittest.TestCase):

    def test_prices_and_papers(self):
        """[13]."""
        for seed in range(20):
            program = rich_program(seed)
            if len(open_items(program, most=4000)) > 6:
                continue
            other = renamed_program(program)
            prices = {item: len(str(item)) for item in items_of(open_items(program, most=4000))[::2]}
            told = cheapest(program, prices, most=4000)
            found = cheapest(other, {renamed_item(item): price for item, price in prices.items()}, most=4000)
            self.assertEqual(told is None, found is None)
            if told is not None:
                self.assertEqual([found[0]] + [items_of(one) for one in found[1]],
                                 [told[0]] + [[renamed_item(item) for item in items_of(one)] for one in told[1]])
            goods, bads = paper(program, most=4000)
            goods = [renamed_repair(repair) for repair in goods]
            bads = [(renamed_repair(repair), renamed_run(run)) for repair, run in bads]
            self.assertIs(is_paper(other, goods, bads, most=4000), True)

    def test_idle(self):
        for seed in range(25):
            program = steady_program(seed)
            names = [(function, name) for function in program.functions() for name in program.names(function)]
            program = program.with_kept(names).with_shut(all_places(program)[::2])
            self.assertEqual(idle(renamed_program(program), most=4000), renamed_repair(idle(program, most=4000)))

    def test_tries(self):
        for seed in range(25):
            tried = tried_program(seed)
            other = renamed(tried)
            for many in (1, 2):
                self.assertIs(is_right(other, many), is_right(tried, many))
                for function, address in tried.places():
                    place = place_in(tried, many, (function, address))
                    self.assertEqual(place_in(other, many, (FUNCTIONS[function], address)), (FUNCTIONS[function], place[1]))
                self.assertEqual(all_places(scheme(other, many)),
                                 [(FUNCTIONS[function], address) for function, address in all_places(scheme(tried, many))])
            self.assertEqual(most_open(other)[0], most_open(tried)[0])

    def test_texts(self):
        for seed in range(25):
            program, other = rich_program(seed), renamed_program(rich_program(seed))
            self.assertEqual(read_program(show_program(other)), other)
            lines, others = show_program(program).split("\n"), show_program(other).split("\n")
            self.assertEqual([len(line.split(" ")) for line in lines], [len(line.split(" ")) for line in others])


def renamed_item(item):
    return (FUNCTIONS[item[0]], NAMES[item[1]] if isinstance(item[1], str) else item[1])


def renamed_repair(repair):
    return parted([renamed_item(item) for item in items_of(repair)])


def renamed_run(run):
    return [(data[0], tuple(NAMES[name] for name in data[1])) if data[0] in ("jump", "break", "within") else data for data in run]


class Asked(unittest.TestCase):

    def test_arguments_are_not_changed(self):
        for number, program in enumerate(every_program()[:15]):
            chance = random.Random(number)
            run = chance_run(chance, program)
            before = [program.functions(), program.kept(), program.shut(), list(run)]
            show_run(run)
            for repair in every_repair(program)[:4] if len(open_items(program, most=4000)) < 6 else []:
                repaired(program, repair)
            idle(program, most=4000)
            self.assertEqual([program.functions(), program.kept(), program.shut(), run], before)

    def test_statements_of_programs(self):
        for program in every_program():
            for parameters, body, result in program.functions().values():
                for statement in body:
                    self.assertEqual(read_statement(show_statement(statement)), statement)


if __name__ == "__main__":
    unittest.main()
