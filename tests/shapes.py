"""Entries, rows and outcomes by chance, and a plain way to tell to what they lead, from the document alone.

A row is set up as a Reference run: an outer call that waits, if there is one, and the call of the row.
"""

import random

from landedback.places import all_places
from landedback.programs import Program
from tests.reference import Reference

LANDINGS = ("jump", "break", "within")

# The call that stands for all that wait: three marks to land at, and a call statement to wait at.
OUTER = ([], [("mark", "x", [], []), ("mark", "x", [], []), ("mark", "x", [], []), ("call", "x", "f", ())], "x")


def rich_program(seed):
    """A program by chance in which many jumps land, the same one for the same seed."""
    chance = random.Random(seed)
    parameters = {"main": [], "f": chance.choice(([], ["a"], ["a", "b"])), "g": chance.choice(([], ["b"], ["c", "a"]))}
    names, cells = ["a", "b", "c"][:chance.choice((2, 3, 3))], ["m", "n", "o"][:chance.choice((1, 2, 2, 3))]
    left = {}

    def body(function, many, depth):
        found = []
        for _ in range(chance.randint(max(1, many - 2), many)):
            if left[function] > 0:
                found.append(statement(function, depth))
        return found

    def perhaps(function, many, depth):
        return body(function, many, depth) if chance.random() < 0.7 else []

    def statement(function, depth):
        left[function] -= 1
        words = ["get", "get", "take", "clear", "use", "free", "free", "jump", "jump", "jump", "move", "arm", "arm", "rest"]
        words += ["call"] * 5 + (["either", "either", "loop", "mark", "mark", "mark"] if depth else [])
        word = chance.choice(words)
        if word in ("get", "clear", "use", "free"):
            return (word, chance.choice(names))
        if word == "take":
            return (word, chance.choice(names), chance.choice(names))
        if word == "call":
            other = chance.choice("fg")
            return (word, chance.choice(names), other, tuple(chance.choice(names) for _ in parameters[other]))
        if word == "jump" and chance.random() < 0.8:
            return ("either", [[("jump", chance.choice(cells))], []])
        if word in ("jump", "arm"):
            return (word, chance.choice(cells))
        if word == "move":
            return (word, chance.choice(cells), chance.choice(cells))
        if word == "either":
            return (word, [perhaps(function, 2, depth - 1) for _ in range(chance.randint(2, 3))])
        if word == "loop":
            return (word, body(function, 2, depth - 1))
        if word == "mark":
            return (word, chance.choice(cells), body(function, 3, depth - 1), perhaps(function, 2, depth - 1))
        return (word,)

    functions = {}
    for function in parameters:
        left[function] = chance.randint(8, 12)
        ahead = []
        if function == "main":
            for cell in cells:
                if chance.random() < 0.8:
                    left[function] -= 1
                    ahead.append(("mark", cell, [], body(function, 1, 1) if chance.random() < 0.4 else []))
        functions[function] = (parameters[function], ahead + body(function, 8, 2), chance.choice(names))
    made = Program(functions)
    kept = [(function, name) for function in functions for name in made.names(function) if chance.random() < 0.3]
    rate = chance.choice((0, 0.2))
    return made.with_kept(kept).with_shut([place for place in all_places(made) if chance.random() < rate])


def some(chance, things):
    """The tuple of some of these things, by chance."""
    return tuple(thing for thing in things if chance.random() < 0.5)


def chance_entry(chance, program, function):
    """An entry of a function, of a run or not."""
    cells = program.cells()
    h = chance.choice(("new", "live", "live", "gone", "nothing"))
    passed = () if h == "new" else some(chance, range(len(program.parameters(function))))
    outside = h in ("live", "gone") and function != "main" and chance.random() < 0.5
    told = []
    for at in range(len(cells)):
        ways = [("nothing",), ("ended",)]
        if function != "main":
            ways += [("outer", at)] * 3 + [("outer", i) for i in range(at) if told[i] == ("outer", i)]
        told.append(chance.choice(ways))
    return (h, passed, outside, tuple(told), chance.choice(cells + [""]))


def later(chance, h):
    """What h can be in a call that began with another one."""
    return chance.choice({"new": ("new", "live", "gone"), "live": ("live", "gone")}.get(h, (h,)))


def outers(entry):
    """What cells can tell in a call with an entry, its own marks left aside."""
    return [("nothing",), ("ended",)] + [("outer", i) for i, item in enumerate(entry[3]) if item == ("outer", i)] * 2


def chance_row(chance, program, place):
    """A row at a place, of a run or not."""
    function, address = place
    while True:
        entry = chance_entry(chance, program, function)
        h = later(chance, entry[0])
        names = () if h == "new" else some(chance, program.names(function))
        if h != "live" or names or entry[2]:
            break
    marks = [other for name, other in all_places(program) if name == function and is_mark(program, (name, other))]
    ways = outers(entry)
    told = []
    for _ in program.cells():
        saved = () if h == "new" else some(chance, program.loose_names(function))
        told.append(chance.choice(ways + [("mine", chance.choice(marks), saved)] * 4 if marks else ways))
    if chance.random() < 0.3:
        told = [chance.choice(told) for _ in told]
    return (function, entry, address, (h, names, tuple(told), chance.choice(program.cells() + [""])))


def chance_outcome(chance, program, entry):
    """An outcome of a call of a function that began with an entry, of a run or not."""
    h = later(chance, entry[0])
    told = tuple(chance.choice(outers(entry)) for _ in program.cells())
    landings = [item[1] for item in outers(entry) if item[0] == "outer"]
    if landings and chance.random() < 0.6:
        return ("jump", chance.choice(landings), h, told)
    return ("end", h, h != "new" and chance.random() < 0.5, told, chance.choice(program.cells() + [""]))


def is_mark(program, place):
    one = Reference(program).statement(*place)
    return one is not None and one[0] == "mark"


class Stand:
    """A row, set up as a run."""

    def __init__(self, program, row):
        self.program = program
        self.function, self.entry, self.address, (self.h, self.names, told, armed) = row
        self.run = Reference(program)
        self.run.functions["outer"] = OUTER
        self.run.kept = self.run.kept | {("outer", "x")}
        # The thing 1 is another one, which nobody is asked about.
        self.run.things = [self.h if self.h in ("live", "gone") else "live", "live"]
        self.thing = {"nothing": None, "new": 2}.get(self.h, 0)
        self.run.calls = []
        if self.function != "main":
            self.run.calls.append({"function": "outer", "address": (3,), "held": {"x": 0 if self.entry[2] else 1}})
        self.mine = len(self.run.calls)
        self.run.calls.append({"function": self.function, "address": self.address,
                               "held": {name: self.worth(name in self.names) for name in program.names(self.function)}})
        self.run.cells = {cell: self.told_of(item) for cell, item in zip(program.cells(), told)}
        self.run.armed = armed or None

    def worth(self, has):
        """Something that a name can hold that has it, or has it not."""
        if has:
            return None if self.h == "nothing" else 0
        return 1

    def told_of(self, item):
        """What a cell tells, for an item of the row."""
        if item[0] == "outer":
            return (0, (item[1],), {})
        if item[0] == "mine":
            loose = self.program.loose_names(self.function)
            return (self.mine, item[1], {name: self.worth(name in item[2]) for name in loose})
        return {"nothing": None, "ended": "ended"}[item[0]]

    def item_of(self, run, told, thing):
        """The item for what a cell tells."""
        if told is None:
            return ("nothing",)
        if told == "ended":
            return ("ended",)
        if told[0] == self.mine:
            return ("mine", told[1], self.having(told[2], thing))
        return ("outer", told[1][0])

    def having(self, held, thing):
        return tuple(sorted(name for name, worth in held.items() if worth == thing))

    def word(self, run, thing):
        if self.h == "nothing":
            return "nothing"
        return run.things[thing] if thing < len(run.things) else "new"

    def told(self, run, cells, thing):
        return tuple(self.item_of(run, cells[cell], thing) for cell in sorted(cells))

    def left(self, run, cells, thing):
        """What cells tell behind the end of the call."""
        return tuple(("ended",) if item[0] == "mine" else item for item in self.told(run, cells, thing))

    def row(self, run, thing):
        call = run.calls[self.mine]
        state = (self.word(run, thing), self.having(call["held"], thing), self.told(run, run.cells, thing),
                 run.armed or "")
        return (self.function, self.entry, call["address"], state)

    def things_behind(self, run):
        """The numbers that the followed thing can have behind a step: what is got may be it, or another one."""
        if self.h == "new" and len(run.things) > 2:
            return [2, 3]
        return [self.thing]

    def steps(self, plain):
        """What the steps of the row lead to: the sets of rows, of faults, of outcomes that leave; and that of the end."""
        rows, faults, outcomes, end = set(), set(), set(), None
        one = self.run.statement(self.function, self.address)
        for data in self.run.wanted():
            landing = data[0] in LANDINGS
            if landing and plain and data[1] != () or not landing and one is not None and one[0] == "call":
                continue
            run = self.run.copied()
            run.step(data)
            for thing in self.things_behind(run):
                if run.fell:
                    faults.add(("fall", self.address))
                elif self.mine == 1 and len(run.calls) == 1:
                    left = self.left(run, self.run.cells, thing)
                    if landing:
                        aim = self.run.cells[one[1] if data[0] == "jump" else self.run.armed]
                        outcomes.add(("jump", aim[1][0], self.word(run, thing), left))
                    else:
                        held = self.run.calls[1]["held"][self.run.functions[self.function][2]]
                        end = ("end", self.h, held == thing, left, self.run.armed or "")
                else:
                    mine = {fault[1::2][:2] for fault in run.faults if fault[4] == thing and thing is not None}
                    faults |= mine
                    if not mine and not run.over:
                        rows.add(self.row(run, thing))
        return rows, faults, outcomes, end

    def begun(self):
        """The tuple (function, entry) of the call that is called at the row."""
        run = self.run.copied()
        run.armed = None
        run.step(("go",))
        call = run.calls[-1]
        parameters = run.functions[call["function"]][0]
        passed = tuple(at for at, name in enumerate(parameters) if call["held"][name] == self.thing)
        outside = any(self.thing in one["held"].values() for one in run.calls[:-1]) and self.h in ("live", "gone")
        told = self.told(run, run.cells, self.thing)
        items = tuple(("outer", told.index(item)) if item[0] in ("mine", "outer") else item for item in told)
        return (call["function"], (self.h, passed, outside, items, self.run.armed or ""))

    def behind(self, outcome, plain):
        """What an outcome of the call at the row leads to: the sets of rows and of faults; and the outcome passed on."""
        h, told = (outcome[1], outcome[3]) if outcome[0] == "end" else (outcome[2], outcome[3])
        cells = self.run.cells
        ascending = sorted(cells)
        base = self.run.copied()
        base.shut = set()
        thing = self.thing
        if self.h == "new":
            base.things.append(h if h != "new" else "live")
            thing = 2 if h != "new" else 3
        elif h != "nothing":
            base.things[0] = h
        function = base.statement(self.function, self.address)[2]
        result = base.functions[function][2]
        # Somebody holds the thing ahead of the end of the call, as in any run.
        held = {result: 1, "#": 1 if h == "new" else thing}
        callee = {"function": function, "address": (len(base.functions[function][1]),), "held": held}
        base.calls.append(callee)
        for cell, item in zip(ascending, told):
            base.cells[cell] = cells[ascending[item[1]]] if item[0] == "outer" else self.told_of(item)
        if outcome[0] == "end":
            callee["held"][result] = thing if outcome[2] else 1
            base.armed = outcome[4] or None
            return self.rows_behind(base, [("go",)], thing, plain)
        base.armed = "#"
        base.cells["#"] = cells[ascending[outcome[1]]]
        return self.rows_behind(base, [data for data in base.wanted() if data[0] == "break"], thing, plain)

    def rows_behind(self, base, choices, thing, plain):
        rows, faults, passed = set(), set(), None
        for data in choices:
            if plain and data[0] == "break" and data[1] != ():
                continue
            run = base.copied()
            run.step(data)
            aim = run.cells.pop("#", None)
            if len(run.calls) == self.mine:
                passed = ("jump", aim[1][0], self.word(run, thing), self.told(run, run.cells, thing))
                continue
            mine = {fault[1::2][:2] for fault in run.faults if fault[4] == thing and thing is not None}
            faults |= mine
            if not mine:
                rows.add(self.row(run, thing))
        return rows, faults, passed
