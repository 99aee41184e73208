"""Statements, those with tries too: their forms, their bodies, and the names and cells in them."""

from landedback.kinds import is_name, is_row

MOST_PASSED = 2

# What follows the word of a statement, part by part.
_FORMS = {
    "arm": ("cell",),
    "call": ("name", "function", "names"),
    "clear": ("name",),
    "either": ("bodies",),
    "free": ("name",),
    "get": ("name",),
    "jump": ("cell",),
    "loop": ("body",),
    "mark": ("cell", "body", "body"),
    "move": ("cell", "cell"),
    "raise": (),
    "rest": (),
    "take": ("name", "name"),
    "try": ("body", "body"),
    "use": ("name",),
}

# The words of statements of programs with tries, and of those that stand there alone.
_TRIED = ("call", "clear", "either", "free", "get", "loop", "raise", "take", "try", "use")
_TRIED_ALONE = ("raise", "try")


def is_statement(thing):
    """Whether thing, any value, is a statement, what stands in its bodies included."""
    return is_whole(thing, is_form)


def is_whole(thing, fits):
    """Whether thing, any value, fits, and so do all items of its bodies; fits is is_form or is_tried_form."""
    return fits(thing) and all([is_whole(item, fits) for body in inner_bodies(thing) for item in body])


def is_form(thing):
    """Whether thing, any value, would be a statement if the right items stood in its bodies."""
    return _has_form(thing) and thing[0] not in _TRIED_ALONE


def is_tried_form(thing):
    """Whether thing, any value, would be a statement of a program with tries if the right items stood in its bodies."""
    return _has_form(thing) and thing[0] in _TRIED


def _has_form(thing):
    if not isinstance(thing, tuple) or len(thing) == 0 or not isinstance(thing[0], str):
        return False
    kinds = _FORMS.get(thing[0], None)
    if kinds is None or len(thing) != len(kinds) + 1:
        return False
    return all([_is_part(kind, part) for kind, part in zip(kinds, thing[1:])])


def _is_part(kind, part):
    if kind == "body":
        return is_row(part)
    if kind == "bodies":
        return is_row(part) and len(part) > 0 and all([is_row(body) for body in part])
    if kind == "names":
        return is_row(part) and len(part) <= MOST_PASSED and all([is_name(name) for name in part])
    return is_name(part)


def inner_bodies(statement):
    """The list of the bodies of a statement, as they stand in it."""
    if statement[0] == "either":
        return list(statement[1])
    if statement[0] == "loop":
        return [statement[1]]
    if statement[0] == "mark":
        return [statement[2], statement[3]]
    if statement[0] == "try":
        return [statement[1], statement[2]]
    return []


def bodies(statement):
    """The list of the bodies of a statement, with new lists for them and in them."""
    return [fresh_body(body) for body in inner_bodies(statement)]


def fresh_body(body):
    """A new list of the statements of a body, with new lists for all bodies in them."""
    return [fresh(statement) for statement in body]


def fresh(statement):
    """The same statement, with new lists for bodies and a tuple for the names of a call."""
    word = statement[0]
    if word == "call":
        return (word, statement[1], statement[2], tuple(statement[3]))
    if word == "either":
        return (word, bodies(statement))
    if word == "loop":
        return (word, fresh_body(statement[1]))
    if word == "mark":
        return (word, statement[1], fresh_body(statement[2]), fresh_body(statement[3]))
    if word == "try":
        return (word, fresh_body(statement[1]), fresh_body(statement[2]))
    return tuple(statement)


def made(statement):
    """The name that holds something else by a statement, or None."""
    if statement[0] in ("get", "take", "clear", "call"):
        return statement[1]
    return None


def read(statement):
    """The ascending list of the names whose holding a statement uses."""
    if statement[0] == "take":
        return [statement[2]]
    if statement[0] in ("use", "free"):
        return [statement[1]]
    if statement[0] == "call":
        return sorted(set(statement[3]))
    return []


def named(statement):
    """The ascending list of all names in a statement, its bodies included."""
    return sorted(set(_all_parts(statement, names_within)))


def cells_in(statement):
    """The ascending list of all cells in a statement, its bodies included."""
    return sorted(set(_all_parts(statement, cells_within)))


def _all_parts(statement, find):
    """The list of what find tells of a statement and of all in its bodies."""
    inner = [part for body in inner_bodies(statement) for item in body for part in _all_parts(item, find)]
    return find(statement) + inner


def names_within(statement):
    """The list of the names in a statement, its bodies left aside, as often as they stand there."""
    if statement[0] == "call":
        return [statement[1]] + list(statement[3])
    return _parts(statement, "name")


def cells_within(statement):
    """The list of the cells in a statement, its bodies left aside, as often as they stand there."""
    return _parts(statement, "cell")


def _parts(statement, wanted):
    return [part for kind, part in zip(_FORMS[statement[0]], statement[1:]) if kind == wanted]
