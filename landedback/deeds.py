"""Deeds: by which a Program becomes another one."""

from landedback.errors import BackError, Refused
from landedback.functions import are_parts
from landedback.kinds import is_address, is_name
from landedback.programs import Program
from landedback.statements import fresh_body

# What follows the name of the function in a deed, by the word of the deed.
_FORMS = {
    "body": ("parameters", "body", "result"),
    "drop": (),
    "keep": ("name",),
    "loose": ("name",),
    "open": ("address",),
    "shut": ("address",),
}


def is_deed(thing):
    """Whether thing, any value, is a deed, whatever stands in its body."""
    if not isinstance(thing, tuple) or len(thing) < 2 or not isinstance(thing[0], str):
        return False
    kinds = _FORMS.get(thing[0], None)
    if kinds is None or len(thing) != len(kinds) + 2 or not is_name(thing[1]):
        return False
    if thing[0] == "body":
        return are_parts(thing[2], thing[3], thing[4])
    return all([_is_part(kind, part) for kind, part in zip(kinds, thing[2:])])


def _is_part(kind, part):
    return is_name(part) if kind == "name" else is_address(part)


def fresh_deed(deed):
    """The same deed, with new lists for parameters and bodies and tuples for the names of calls."""
    if deed[0] == "body":
        word, function, parameters, body, result = deed
        return (word, function, list(parameters), fresh_body(body), result)
    return tuple(deed)


def done(program, deed):
    """The Program that a deed makes of one; raises Refused."""
    word = deed[0]
    if word != "body" and not program.has_function(deed[1]):
        raise Refused(deed, None)
    if word in ("keep", "loose"):
        return _kept_otherwise(program, deed)
    if word in ("shut", "open"):
        return _shut_otherwise(program, deed)
    functions = program.functions()
    if word == "body":
        functions[deed[1]] = (deed[2], deed[3], deed[4])
    else:
        del functions[deed[1]]
    kept = [item for item in program.kept() if item[0] != deed[1]]
    shut = [place for place in program.shut() if place[0] != deed[1]]
    try:
        return Program(functions, kept=kept, shut=shut)
    except BackError as error:
        raise Refused(deed, error) from error


def _kept_otherwise(program, deed):
    word, function, name = deed
    item = (function, name)
    kept = program.kept()
    if name not in program.names(function) or (item in kept) != (word == "loose"):
        raise Refused(deed, None)
    return program.with_kept(kept + [item] if word == "keep" else [other for other in kept if other != item])


def _shut_otherwise(program, deed):
    word, function, address = deed
    place = (function, address)
    shut = program.shut()
    if not program.has_address(function, address) or (place in shut) != (word == "open"):
        raise Refused(deed, None)
    return program.with_shut(shut + [place] if word == "shut" else [other for other in shut if other != place])
