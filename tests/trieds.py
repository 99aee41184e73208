"""A second, plain way to do runs of programs with tries, written from the document alone; and programs to try both on.

It shares no code with the package but Tried, of which it asks functions.
"""

import copy
import random

from landedback.tries import Tried


def within(one):
    """The bodies of a statement."""
    if one[0] == "either":
        return one[1]
    if one[0] == "loop":
        return [one[1]]
    return [one[1], one[2]] if one[0] == "try" else []


class TriedReference:
    """A run of a program with tries, changed in place, with a list of the open tries that is kept by hand.

    closed counts, for each step, the tries that it closes; highest is the greatest number that were open at once;
    pushed has, for each open try, how many others that began later were open at once.
    """

    def __init__(self, tried):
        self.functions = tried.functions()
        self.names = {function: tried.names(function) for function in self.functions}
        self.calls = [self.new_call("main")]
        self.open = []
        self.pushed = []
        self.things = []
        self.faults = []
        self.many = 0
        self.highest = 0
        self.over = False
        self.fell = False

    def copied(self):
        other = copy.copy(self)
        other.calls = [{**call, "held": dict(call["held"])} for call in self.calls]
        other.open = list(self.open)
        other.pushed, other.things, other.faults = list(self.pushed), list(self.things), list(self.faults)
        return other

    def new_call(self, function):
        return {"function": function, "address": (0,), "held": {name: None for name in self.names[function]}}

    def around(self, function, address):
        body, at = self.functions[function][1], address[0]
        for b, j in zip(address[1::2], address[2::2]):
            body, at = within(body[at])[b], j
        return body, at

    def statement(self, function, address):
        body, at = self.around(function, address)
        return body[at] if at < len(body) else None

    def here(self):
        return None if self.over else (self.calls[-1]["function"], self.calls[-1]["address"])

    def wanted(self):
        if self.over:
            return []
        one = self.statement(*self.here())
        if one is not None and one[0] == "either":
            return [("body", b) for b in range(len(one[1]))]
        return [("body", 0), ("go",)] if one is not None and one[0] == "loop" else [("go",)]

    def leave(self, function, address):
        """Goes behind the statement, out of as many bodies as end there; closes the tries whose bodies they are."""
        while True:
            body, at = self.around(function, address)
            if at + 1 < len(body) or len(address) == 1:
                return address[:-1] + (at + 1,)
            b, address = address[-2], address[:-2]
            word = self.statement(function, address)[0]
            if word == "loop":
                return address
            if word == "try" and b == 0:
                self.close(address)

    def close(self, address):
        assert self.open[-1] == (len(self.calls) - 1, address)
        self.open.pop()
        self.pushed.pop()

    def enter(self, function, address, b):
        one = self.statement(function, address)
        if within(one)[b]:
            return address + (b, 0)
        if one[0] == "loop":
            return address
        if one[0] == "try" and b == 0:
            self.close(address)
        return self.leave(function, address)

    def held(self):
        return {thing for call in self.calls for thing in call["held"].values() if thing is not None}

    def step(self, data):
        assert data in self.wanted()
        place, ahead, many, faults = self.here(), self.held(), len(self.things), []
        lost_at = self.work(place, data, faults)
        for thing in sorted(ahead | set(range(many, len(self.things)))) if lost_at else []:
            if self.things[thing] == "live" and thing not in self.held():
                faults.append(("lost",) + lost_at + (thing,))
        self.faults += [(self.many,) + fault for fault in faults]
        self.many += 1
        return faults

    def work(self, place, data, faults):
        """Does a step; returns the place of what is lost by it, None for a fall."""
        function, address = place
        one = self.statement(*place)
        call = self.calls[-1]
        held = call["held"]
        if one is None:
            return self.end(place)
        word = one[0]
        if word == "raise":
            return self.raised(place, faults)
        if word == "call":
            begun = self.new_call(one[2])
            begun["held"].update(zip(self.functions[one[2]][0], [held[name] for name in one[3]]))
            self.calls.append(begun)
            return place
        if word == "try":
            self.open.append((len(self.calls) - 1, address))
            self.pushed = [max(most, len(self.open) - 1 - at) for at, most in enumerate(self.pushed + [0])]
            self.highest = max(self.highest, len(self.open))
            call["address"] = self.enter(function, address, 0)
            return place
        if data[0] == "body":
            call["address"] = self.enter(function, address, data[1])
            return place
        if word == "get":
            held[one[1]] = len(self.things)
            self.things.append("live")
        elif word in ("take", "clear"):
            held[one[1]] = held[one[2]] if word == "take" else None
        elif word in ("use", "free") and held[one[1]] is not None:
            if self.things[held[one[1]]] == "gone":
                faults.append(("gone",) + place + (held[one[1]],))
            elif word == "free":
                self.things[held[one[1]]] = "gone"
        call["address"] = self.leave(function, address)
        return place

    def end(self, place):
        ended = self.calls.pop()
        assert not self.open or self.open[-1][0] < len(self.calls)
        if not self.calls:
            self.over = True
            return place
        call = self.calls[-1]
        waited = (call["function"], call["address"])
        call["held"][self.statement(*waited)[1]] = ended["held"][self.functions[place[0]][2]]
        call["address"] = self.leave(*waited)
        return waited

    def raised(self, place, faults):
        if not self.open:
            self.over = self.fell = True
            faults.append(("fall",) + place + (None,))
            return None
        index, address = self.open[-1]
        del self.calls[index + 1:]
        self.close(address)
        call = self.calls[-1]
        call["address"] = self.enter(call["function"], address, 1)
        return (call["function"], address)

    def told_calls(self):
        return [((call["function"], call["address"]), call["held"]) for call in self.calls]


INNER = ("try", [("clear", "p")], [])
TWICE = {"main": ([], [("try", [INNER, ("either", [[("raise",)], []])], [])], "p")}

# Tries in loops, in eithers, in the other body of tries, with empty bodies, one behind the other's end.
SPREAD = {
    "main": ([], [("loop", [("try", [("either", [[("raise",)], [("try", [], [])], []])], [("get", "p"), ("free", "p")])]),
                  ("try", [("try", [("raise",)], [("either", [[("raise",)], []])])], []), ("raise",)], "p"),
}

# Raises in called functions, that cut off calls which wait, and one that calls itself within a try.
DEEP_TRIED = {
    "main": ([], [("get", "p"), ("try", [("call", "q", "f", ("p",))], [("use", "p")]), ("free", "p")], "p"),
    "f": (["a"], [("get", "b"), ("try", [("either", [[("call", "c", "g", ("a", "b"))], [("call", "c", "f", ("b",))], []])],
                                 [("free", "b"), ("raise",)]), ("free", "b")], "a"),
    "g": (["x", "y"], [("get", "z"), ("either", [[("raise",)], [("try", [("raise",)], [])], []]), ("free", "z")], "y"),
}

# Raises to which no run comes, and one with none open.
NEVER = {
    "main": ([], [("try", [("call", "p", "f", ())], []), ("call", "p", "g", ())], "p"),
    "f": ([], [("raise",), ("try", [("raise",)], [])], "r"),
    "g": ([], [("try", [], [("raise",)]), ("either", [[("raise",)], []])], "r"),
}


def trieds():
    return [Tried(functions) for functions in (TWICE, SPREAD, DEEP_TRIED, NEVER)]


def tried_program(seed):
    """A program with tries by chance, the same one for the same seed."""
    chance = random.Random(seed)
    parameters = {"main": [], "f": chance.choice(([], ["a"], ["a", "b"])), "g": chance.choice(([], ["b"]))}
    names = ["a", "b", "c"][:chance.choice((2, 3))]
    left = {}

    def body(function, least, most, depth):
        found = []
        for _ in range(chance.randint(least, most)):
            if left[function] > 0:
                left[function] -= 1
                found.append(statement(function, depth))
        return found

    def statement(function, depth):
        words = ["get", "take", "clear", "use", "free", "call", "call", "raise", "raise"]
        words += ["either", "loop", "try", "try", "try", "try"] if depth else []
        word = chance.choice(words)
        if word in ("get", "clear", "use", "free"):
            return (word, chance.choice(names))
        if word == "take":
            return (word, chance.choice(names), chance.choice(names))
        if word == "call":
            other = chance.choice("fg")
            return (word, chance.choice(names), other, tuple(chance.choice(names) for _ in parameters[other]))
        if word == "raise" and chance.random() < 0.7:
            return ("either", [[("raise",)], []])
        if word == "either":
            return (word, [body(function, 0, 2, depth - 1) for _ in range(chance.randint(1, 3))])
        if word == "loop":
            return (word, body(function, 0, 2, depth - 1))
        if word == "try":
            return (word, body(function, 0, 3, depth - 1), body(function, 0, 2, depth - 1))
        return (word,)

    functions = {}
    for function in parameters:
        left[function] = chance.randint(4, 11)
        functions[function] = (parameters[function], body(function, 2, 5, 3), chance.choice(names))
    return Tried(functions)


def nested_program(seed):
    """A program of main alone, with many tries within one another, the same one for the same seed."""
    chance = random.Random(seed)
    left = [12]

    def body(least, most, depth):
        found = []
        for _ in range(chance.randint(least, most)):
            if left[0] > 0:
                left[0] -= 1
                found.append(statement(depth))
        return found

    def statement(depth):
        word = chance.choice(["clear", "raise", "perhaps", "perhaps", "loop"] + ["try"] * 6 if depth else ["clear", "raise", "perhaps"])
        if word == "try":
            return (word, body(0, 3, depth - 1), body(0, 2, depth - 1))
        if word == "loop":
            return (word, body(0, 2, depth - 1))
        if word == "perhaps":
            return ("either", [[("raise",)], []])
        return ("clear", "a") if word == "clear" else ("raise",)

    return Tried({"main": ([], body(1, 3, 4), "a")})
