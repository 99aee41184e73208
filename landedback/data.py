"""Data of steps: the forms that they have."""

from landedback.kinds import is_integer, is_name

# The words of the data of steps that land at a mark, or fall.
LANDINGS = ("break", "jump", "within")


def is_data(thing):
    """Whether thing, any value, has the form of the data of a step."""
    if not isinstance(thing, tuple) or len(thing) == 0 or not isinstance(thing[0], str):
        return False
    if thing[0] == "go":
        return len(thing) == 1
    if len(thing) != 2:
        return False
    if thing[0] == "body":
        return is_integer(thing[1]) and thing[1] >= 0
    return thing[0] in LANDINGS and are_ascending(thing[1])


def are_ascending(thing):
    """Whether thing, any value, is an ascending tuple of names, each once."""
    if not isinstance(thing, tuple) or not all([is_name(name) for name in thing]):
        return False
    return list(thing) == sorted(set(thing))


def coming_back(data):
    """The tuple of the names that come back by a step with these data."""
    return data[1] if data[0] in LANDINGS else ()


def bare(data):
    """The same data where nothing comes back."""
    return (data[0], ()) if data[0] in LANDINGS else data


def parts_of(names):
    """The list of the tuples of some of the names of an ascending list, of none and of all too."""
    parts = [()]
    for name in names:
        parts = parts + [part + (name,) for part in parts]
    return parts
