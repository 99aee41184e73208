"""The kinds of plain values that the package speaks of."""

LONGEST_NAME = 8


def is_integer(thing):
    """Whether thing, any value, is an integer, truths left aside."""
    return isinstance(thing, int) and not isinstance(thing, bool)


def is_number(many, thing):
    """Whether thing, any value, is an integer from 0 to many - 1."""
    return is_integer(thing) and 0 <= thing < many


def is_name(thing):
    """Whether thing, any value, is a string of one to eight letters a to z."""
    if not isinstance(thing, str) or not 1 <= len(thing) <= LONGEST_NAME:
        return False
    return thing.isascii() and thing.isalpha() and thing.islower()


def is_row(thing):
    """Whether thing, any value, is a list or a tuple."""
    return isinstance(thing, (list, tuple))


def is_address(thing):
    """Whether thing, any value, has the form of an address: an odd number of integers from 0 on."""
    if not isinstance(thing, tuple) or len(thing) % 2 == 0:
        return False
    return all([is_integer(item) and item >= 0 for item in thing])
