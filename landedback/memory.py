"""Memory: what was found out of a Program or a Tried, which never change, so that it is found out once.

Each of them has a dict of its own for that; what stands in it is never handed to a caller as it is,
unless nobody can change it.
"""


def recalled(thing, key, find):
    """What find tells of a thing with a memory; it is asked once."""
    if key not in thing.memory:
        thing.memory[key] = find(thing)
    return thing.memory[key]
