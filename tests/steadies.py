"""Programs by chance of which many are steady: names mostly hold live things, which are freed before others are got."""

import random

from landedback.places import all_places, statement_at
from landedback.programs import Program


def renewed(name):
    return [("free", name), ("get", name)]


def landing(chance, names):
    return [one for name in names if chance.random() < 0.3 for one in renewed(name)]


def body(chance, names, cells, depth, most, parameters):
    """A body over names that hold live things; parameters are those of f, None if it is not to be called."""
    found = []
    for _ in range(chance.randint(1, most)):
        word = chance.choice(["renew", "renew", "use", "jump", "jump", "call", "mark", "arm", "either", "loop", "swap", "move"])
        name, cell = chance.choice(names), chance.choice(cells)
        if word == "renew":
            found += renewed(name)
        elif word == "use":
            found.append(("use", name))
        elif word == "jump":
            found.append(("either", [[("jump", cell)], []]))
        elif word == "call" and parameters is not None:
            found.append(("call", "z", "f", tuple(chance.choice(names) for _ in parameters)))
        elif word == "mark" and depth:
            inner = body(chance, names, cells, depth - 1, 2, parameters) if chance.random() < 0.5 else []
            found.append(("mark", cell, inner, landing(chance, names)))
        elif word == "arm":
            found += [("arm", cell)] + chance.choice(([("use", name)], renewed(name), [])) + [("rest",)]
        elif word == "either" and depth:
            found.append(("either", [body(chance, names, cells, depth - 1, 2, parameters), []]))
        elif word == "loop" and depth:
            found.append(("loop", body(chance, names, cells, depth - 1, 2, parameters)))
        elif word == "swap" and len(names) > 1:
            first, second = names
            found += [("take", "z", first), ("take", first, second), ("take", second, "z"), ("clear", "z")]
        elif word == "move":
            found.append(("move", cells[0], cells[-1]))
    return found


def steady_program(seed):
    """A program by chance, perhaps steady, the same one for the same seed."""
    chance = random.Random(seed)
    names, cells = ["p", "q"][:chance.choice((1, 2, 2))], ["m", "n"][:chance.choice((1, 1, 2))]
    parameters = chance.choice(([], ["a"]))
    main = [("get", name) for name in names] + [("mark", cell, [], landing(chance, names)) for cell in cells]
    main += body(chance, names, cells, 2, 5, parameters) + [("free", name) for name in names]
    inner = []
    if chance.random() < 0.6:
        own = ["o"] if chance.random() < 0.7 else cells
        inner = [("get", "x")] + ([("mark", "o", [], landing(chance, ["x"]))] if own == ["o"] else [])
        inner += body(chance, ["x"], own, 1, 3, parameters if chance.random() < 0.3 else None) + [("free", "x"), ("clear", "x")]
    if parameters and chance.random() < 0.5:
        inner.append(("use", "a"))
    if chance.random() < 0.5:
        inner.append(("either", [[("jump", chance.choice(cells))], []]))
    made = Program({"main": ([], main, "p"), "f": (parameters, inner, chance.choice(parameters + ["x", "y"]))})
    shut = []
    for place in all_places(made):
        one = statement_at(made, place)
        # Between a free and the get behind it a break-in would leave a gone thing.
        if chance.random() < (0.9 if one is not None and one[0] == "get" else 0.1):
            shut.append(place)
    return made.with_shut(shut)
