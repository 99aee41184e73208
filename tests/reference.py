"""A second, plain way to do runs, written from the document alone; and programs to try both on.

It shares no code with the package but Program, of which it asks functions, kept and shut.
"""

import copy
import itertools
import random

from landedback.programs import Program


def within(one):
    """The bodies of a statement."""
    if one[0] == "either":
        return one[1]
    if one[0] == "loop":
        return [one[1]]
    return list(one[2:]) if one[0] == "mark" else []


class Reference:
    """A run of a program, as a heap of lists and dicts that is changed in place."""

    def __init__(self, program):
        self.functions = program.functions()
        self.kept = set(program.kept())
        self.shut = set(program.shut())
        self.things = []
        self.armed = None
        self.cells = {cell: None for cell in program.cells()}
        self.over = False
        self.fell = False
        self.faults = []
        self.many = 0
        self.calls = [self.new_call("main")]

    def copied(self):
        other = copy.copy(self)
        other.things, other.faults = list(self.things), list(self.faults)
        other.cells, other.calls = dict(self.cells), copy.deepcopy(self.calls)
        return other

    def names(self, function):
        parameters, body, result = self.functions[function]
        found = set(parameters) | {result}

        def look(statements):
            for one in statements:
                word = one[0]
                if word in ("get", "clear", "use", "free"):
                    found.add(one[1])
                elif word == "take":
                    found.update(one[1:])
                elif word == "call":
                    found.update((one[1],) + one[3])
                for inner in within(one):
                    look(inner)

        look(body)
        return sorted(found)

    def loose(self, function):
        return [name for name in self.names(function) if (function, name) not in self.kept]

    def new_call(self, function):
        return {"function": function, "address": (0,), "held": {name: None for name in self.names(function)}}

    def body_around(self, function, address):
        """The list in which the statement at an address stands, and the index in it."""
        body, at = self.functions[function][1], address[0]
        for b, j in zip(address[1::2], address[2::2]):
            body, at = within(body[at])[b], j
        return body, at

    def statement(self, function, address):
        body, at = self.body_around(function, address)
        return body[at] if at < len(body) else None

    def behind(self, function, address):
        body, at = self.body_around(function, address)
        if at + 1 < len(body) or len(address) == 1:
            return address[:-1] + (at + 1,)
        around = address[:-2]
        if self.statement(function, around)[0] == "loop":
            return around
        return self.behind(function, around)

    def into(self, function, address, b):
        one = self.statement(function, address)
        if within(one)[b]:
            return address + (b, 0)
        return address if one[0] == "loop" else self.behind(function, address)

    def here(self):
        if self.over:
            return None
        return (self.calls[-1]["function"], self.calls[-1]["address"])

    def cell_of(self, word):
        return self.statement(*self.here())[1] if word == "jump" else self.armed

    def comers(self, word):
        """All tuples of names that may come back by a landing of this word."""
        told = self.cells[self.cell_of(word)]
        if told is None or told == "ended":
            return [()]
        loose = self.loose(self.calls[told[0]]["function"])
        return [names for many in range(len(loose) + 1) for names in itertools.combinations(loose, many)]

    def wanted(self):
        if self.over:
            return []
        one = self.statement(*self.here())
        word = "end" if one is None else one[0]
        found = []
        if word == "either":
            found += [("body", b) for b, _ in enumerate(one[1])]
        elif word == "jump":
            found += [("jump", names) for names in self.comers("jump")]
        else:
            found.append(("go",))
            if word == "loop":
                found.append(("body", 0))
        if self.armed is not None and self.here() not in self.shut:
            found += [("break", names) for names in self.comers("break")]
            if word == "get":
                found += [("within", names) for names in self.comers("within")]
        return sorted(found)

    def held_things(self):
        return {thing for call in self.calls for thing in call["held"].values() if thing is not None}

    def step(self, data):
        assert data in self.wanted()
        place = self.here()
        ahead = self.held_things()
        many = len(self.things)
        faults = []
        if data[0] in ("jump", "break", "within"):
            lost_at = self.land(data)
            if lost_at is None:
                faults = [("fall",) + place + (None,)]
        else:
            lost_at = self.work(place, data, faults)
        if lost_at is not None:
            for thing in sorted(ahead | set(range(many, len(self.things)))):
                if self.things[thing] == "live" and thing not in self.held_things():
                    faults.append(("lost",) + lost_at + (thing,))
        faults.sort()
        self.faults += [(self.many,) + fault for fault in faults]
        self.many += 1
        return faults

    def land(self, data):
        told = self.cells[self.cell_of(data[0])]
        if told is None or told == "ended":
            self.over = self.fell = True
            return None
        if data[0] == "within":
            self.things.append("live")
        index, address, saved = told
        while len(self.calls) > index + 1:
            self.drop_call()
        call = self.calls[index]
        for name in data[1]:
            call["held"][name] = saved[name]
        call["address"] = self.into(call["function"], address, 1)
        self.armed = None
        return (call["function"], address)

    def drop_call(self):
        gone = self.calls.pop()
        for cell, told in self.cells.items():
            if isinstance(told, tuple) and told[0] == len(self.calls):
                self.cells[cell] = "ended"
        return gone

    def work(self, place, data, faults):
        """Does a step that is no landing; returns the place of what is lost by it."""
        one = self.statement(*place)
        call = self.calls[-1]
        held = call["held"]
        if one is None:
            return self.end(place)
        word = one[0]
        if word == "call":
            begun = self.new_call(one[2])
            for parameter, name in zip(self.functions[one[2]][0], one[3]):
                begun["held"][parameter] = held[name]
            self.calls.append(begun)
            return place
        call["address"] = self.behind(*place)
        if data[0] == "body":
            call["address"] = self.into(place[0], place[1], data[1])
        elif word == "get":
            held[one[1]] = len(self.things)
            self.things.append("live")
        elif word == "take":
            held[one[1]] = held[one[2]]
        elif word == "clear":
            held[one[1]] = None
        elif word in ("use", "free") and held[one[1]] is not None:
            if self.things[held[one[1]]] == "gone":
                faults.append(("gone",) + place + (held[one[1]],))
            elif word == "free":
                self.things[held[one[1]]] = "gone"
        elif word == "mark":
            saved = {name: held[name] for name in self.loose(place[0])}
            self.cells[one[1]] = (len(self.calls) - 1, place[1], saved)
            call["address"] = self.into(place[0], place[1], 0)
        elif word == "move":
            self.cells[one[1]] = self.cells[one[2]]
        elif word == "arm":
            self.armed = one[1]
        elif word == "rest":
            self.armed = None
        return place

    def end(self, place):
        ended = self.drop_call()
        if not self.calls:
            self.over = True
            return place
        call = self.calls[-1]
        waited = (call["function"], call["address"])
        call["held"][self.statement(*waited)[1]] = ended["held"][self.functions[place[0]][2]]
        call["address"] = self.behind(*waited)
        return waited

    def told_calls(self):
        return [((call["function"], call["address"]), call["held"]) for call in self.calls]


TIDY = [("free", "p"), ("clear", "p")]
PLAN = {"main": ([], [("clear", "p"), ("mark", "m", [], TIDY), ("get", "p"),
                      ("either", [[("jump", "m")], []])] + TIDY, "p")}

# f calls itself, and jumps back into main.
DEEP = {
    "main": ([], [("get", "p"), ("mark", "m", [("call", "q", "f", ("p", "q"))], [("use", "p")]), ("free", "q")], "p"),
    "f": (["a", "b"], [("either", [[("get", "b"), ("call", "a", "f", ("b", "a"))], [("free", "a"), ("jump", "m")], []])],
          "b"),
}

# Break-ins, in the place of steps and within gets, and moved cells.
ARMED = {
    "main": ([], [("mark", "m", [("arm", "n"), ("move", "n", "m"), ("get", "p"), ("rest",)], [("use", "q")]),
                  ("take", "q", "p"), ("arm", "m"), ("loop", [("get", "p")]), ("call", "p", "f", ())], "p"),
    "f": ([], [("mark", "n", [], []), ("jump", "n")], "r"),
}

# Marks of calls that end; a jump to one is a fall.
STALE = {
    "main": ([], [("loop", [("call", "p", "f", ()), ("either", [[("jump", "m")], [("arm", "m")], [("use", "p")]])])],
             "p"),
    "f": ([], [("get", "r"), ("mark", "m", [("mark", "n", [("move", "m", "n")], [])], [("clear", "r")])], "r"),
}

# Empty bodies everywhere, and loops within loops.
HOLLOW = {
    "main": ([], [("loop", [("loop", []), ("either", [[], []]), ("loop", [("mark", "m", [], [])])]),
                  ("call", "p", "f", ()), ("jump", "m")], "p"),
    "f": ([], [], "p"),
}

# Three functions, each of which waits for the next one; what they hold is passed on and back.
CHAIN = {
    "main": ([], [("mark", "m", [("get", "p")], []), ("call", "q", "f", ("p",)), ("jump", "m")], "q"),
    "f": (["x"], [("mark", "n", [("call", "y", "g", ("x", "y"))], [("take", "y", "x")])], "y"),
    "g": (["u", "v"], [("free", "u"), ("either", [[("jump", "n")], [("jump", "m")], [("get", "v")]])], "v"),
}


def programs():
    """Programs of many kinds."""
    found = [Program(functions) for functions in (PLAN, DEEP, ARMED, STALE, HOLLOW, CHAIN)]
    found.append(Program(PLAN, kept=[("main", "p")]))
    found.append(Program(DEEP, kept=[("main", "q"), ("f", "a")]))
    found.append(Program(ARMED, kept=[("main", "p")], shut=[("main", (0, 0, 2)), ("main", (3,))]))
    found.append(Program(ARMED, shut=[("f", (2,)), ("main", (5,))]))
    found.append(Program(STALE, kept=[("f", "r")], shut=[("main", (0, 0, 0))]))
    found.append(Program(CHAIN, kept=[("f", "y"), ("g", "u")]))
    return found


def chance_program(seed):
    """A program by chance, the same one for the same seed."""
    chance = random.Random(seed)
    functions = {"main": [], "f": chance.choice(([], ["a"], ["a", "b"])), "g": chance.choice(([], ["b"]))}
    names, cells = ["a", "b", "c"], ["m", "n"]

    def body(many, depth):
        return [statement(depth) for _ in range(chance.randint(0, many))]

    def statement(depth):
        words = ["get", "take", "clear", "use", "free", "call", "jump", "move", "arm", "rest"]
        words += [] if depth == 0 else ["either", "loop", "mark", "mark"] * 2
        word = chance.choice(words)
        if word in ("get", "clear", "use", "free"):
            return (word, chance.choice(names))
        if word == "take":
            return (word, chance.choice(names), chance.choice(names))
        if word == "call":
            function = chance.choice("fg")
            return (word, chance.choice(names), function, tuple(chance.choice(names) for _ in functions[function]))
        if word in ("jump", "arm"):
            return (word, chance.choice(cells))
        if word == "move":
            return (word, chance.choice(cells), chance.choice(cells))
        if word == "either":
            return (word, [body(2, depth - 1) for _ in range(chance.randint(1, 3))])
        if word == "loop":
            return (word, body(2, depth - 1))
        if word == "mark":
            return (word, chance.choice(cells), body(3, depth - 1), body(2, depth - 1))
        return (word,)

    made = Program({name: (functions[name], body(5, 2), chance.choice(names)) for name in functions})
    kept = [(name, item) for name in functions for item in made.names(name) if chance.random() < 0.2]
    places = [(name, (at,)) for name in functions for at in range(len(made.functions()[name][1]) + 1)]
    return made.with_kept(kept).with_shut([place for place in places if chance.random() < 0.1])
