"""The document's example, row by row. The rows are one session."""

import doctest
import unittest

ROWS = '''
>>> from landedback.places import after, all_places, entered, ways
>>> from landedback.programs import Program
>>> from landedback.statements import cells_in, made, read
>>> tidy = [("free", "p"), ("clear", "p")]
>>> body = [("clear", "p"), ("mark", "m", [], tidy), ("get", "p"), ("either", [[("jump", "m")], []])] + tidy
>>> plan = Program({"main": ([], body, "p")})
>>> [plan.names("main"), plan.cells(), len(all_places(plan))]
[['p'], ['m'], 10]
>>> [ways(plan, ("main", (1,))), ways(plan, ("main", (3,))), ways(plan, ("main", (3, 0, 0)))]
[[('main', (2,))], [('main', (3, 0, 0)), ('main', (4,))], []]
>>> [after(plan, ("main", (1, 1, 1))), entered(plan, ("main", (1,)), 1), made(("take", "p", "q")), read(body[1])]
[('main', (2,)), ('main', (1, 1, 0)), 'p', []]
>>> [cells_in(body[3]), plan.with_kept([("main", "p")]).loose_names("main")]
[['m'], []]
>>> from landedback.machine import Machine
>>> from landedback.placings import Placing, placed
>>> from landedback.runs import faults_of
>>> machine = Machine(plan)
>>> [machine.step(data) for data in [("go",), ("go",), ("go",), ("body", 0)]]
[[], [], [], []]
>>> [machine.wanted(), machine["p"], machine.cells()]
[[('jump', ()), ('jump', ('p',))], 0, {'m': (0, (1,), {'p': None})}]
>>> found = machine.trial(lambda tried: [tried.step(("jump", ("p",))), tried.here(), tried["p"]])
>>> [found, machine.here(), machine["p"]]
[[[('lost', 'main', (1,), 0)], ('main', (1, 1, 0)), None], ('main', (3, 0, 0)), 0]
>>> choices = machine.run() + [("jump", ())]
>>> [faults_of(plan, choices), placed(plan, choices, Placing.everything()).faults()]
[[], [(4, 'lost', 'main', (1,), 0)]]
>>> from landedback.followed import row_of
>>> from landedback.steps import faulty, followers
>>> row = row_of(plan, machine.run(), 0)
>>> row[2:]
((3, 0, 0), ('live', ('p',), (('mine', (1,), ()),), ''))
>>> [faulty(plan, row), [one[2:] for one in followers(plan, row)]]
[[('lost', (1,))], [((1, 1, 0), ('live', ('p',), (('mine', (1,), ()),), ''))]]
>>> from landedback.faultruns import fault_run, fewest
>>> from landedback.tables import Table
>>> [Table(plan).faults(), Table(plan, plain=True).faults()]
[[('lost', 'main', (1,))], []]
>>> [fewest(plan), fault_run(plan)]
[5, [('go',), ('go',), ('go',), ('body', 0), ('jump', ('p',))]]
>>> from landedback.plainruns import changed, empty_uses
>>> from landedback.steady import must_keep, safe_with
>>> [must_keep(plan), changed(plan), safe_with(plan, []), safe_with(plan, [("main", "p")])]
[[('main', 'p')], [('main', 'p')], False, True]
>>> empty_uses(plan)
[]
>>> from landedback.least import cheapest, least
>>> from landedback.repairs import Repair, open_items, repaired
>>> [open_items(plan).kept(), open_items(plan).shut(), [one.kept() for one in least(plan)]]
[[('main', 'p')], [], [[('main', 'p')]]]
>>> from landedback.pushed import is_right, most_open, wrong_raise
>>> from landedback.tries import Tried
>>> inner = ("try", [("clear", "p")], [])
>>> twice = Tried({"main": ([], [("try", [inner, ("either", [[("raise",)], []])], [])], "p")})
>>> [most_open(twice), is_right(twice, 1), is_right(twice, 2)]
[('most', 2), False, True]
>>> wrong_raise(twice, 1)
[('go',), ('go',), ('go',), ('body', 0), ('go',)]
>>> from landedback.book import Book
>>> from landedback.desk import Desk
>>> desk = Desk(plan)
>>> [desk.execute("safe"), desk.execute("must"), desk.execute("keep main p"), desk.execute("safe"), desk.execute("back")]
['lost main 1', 'main p', '-', 'safe', 'keep main p']
>>> desk.execute("program")
'main: [clear p; mark m [] [free p; clear p]; get p; either [jump m] []; free p; clear p] -> p\\n'
'''


class Example(unittest.TestCase):

    def test_rows(self):
        rows = doctest.DocTestParser().get_doctest(ROWS, {}, "example", None, None)
        told = []
        result = doctest.DocTestRunner(verbose=False).run(rows, out=told.append)
        self.assertEqual(result.failed, 0, "".join(told))
        self.assertEqual(result.attempted, 47)


if __name__ == "__main__":
    unittest.main()
