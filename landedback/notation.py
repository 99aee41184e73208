"""Notation: statements, programs, runs, deeds and logs as texts, and back."""

from landedback.book import Book
from landedback.data import is_data
from landedback.deeds import is_deed
from landedback.errors import BackError, Broken, Full, NoText, Refused
from landedback.programs import Program
from landedback.reading import lines_of, seen_address, seen_data, seen_function, seen_statement
from landedback.statements import inner_bodies, is_statement


def show_statement(statement):
    """The text of a statement."""
    words = [statement[0]]
    if statement[0] == "call":
        words = words + [statement[1], statement[2]] + list(statement[3])
    else:
        words = words + [part for part in statement[1:] if isinstance(part, str)]
    return " ".join(words + [_shown_body(body) for body in inner_bodies(statement)])


def show_program(program):
    """The text of a Program."""
    functions = program.functions()
    lines = [_shown_function(name, functions[name]) for name in functions]
    lines = lines + [f"keep {function} {name}" for function, name in program.kept()]
    return _joined(lines + ["shut " + show_place(place) for place in program.shut()])


def show_run(run):
    """The text of a run."""
    return _joined([_shown_data(data) for data in run])


def show_deed(deed):
    """The text of a deed."""
    if deed[0] == "body":
        return "body " + _shown_function(deed[1], (deed[2], deed[3], deed[4]))
    if deed[0] in ("shut", "open"):
        return deed[0] + " " + show_place((deed[1], deed[2]))
    return " ".join(list(deed))


def show_log(book):
    """The text of the log of a Book."""
    return _joined([show_deed(deed) for deed in book.log()])


def show_place(place):
    """The text of a place: its function, a blank, and its address."""
    return place[0] + " " + ".".join([str(item) for item in place[1]])


def read_statement(text):
    """The statement that a text, any value, writes."""
    _check_text(text)
    found = seen_statement(text)
    if not is_statement(found) or show_statement(found) != text:
        raise NoText()
    return found


def read_program(text):
    """The Program that a text, any value, writes."""
    _check_text(text)
    functions = {}
    kept = []
    shut = []
    for line in lines_of(text):
        words = line.split(" ")
        if ":" in line:
            name, parameters, body, result = seen_function(line)
            functions[name] = (parameters, body, result)
        elif len(words) == 3 and words[0] == "keep":
            kept.append((words[1], words[2]))
        elif len(words) == 3 and words[0] == "shut":
            shut.append((words[1], seen_address(words[2])))
        else:
            raise NoText()
    try:
        program = Program(functions, kept=kept, shut=shut)
    except BackError:
        raise NoText() from None
    if show_program(program) != text:
        raise NoText()
    return program


def read_run(text):
    """The run, a list of data, that a text, any value, writes."""
    _check_text(text)
    found = [seen_data(line) for line in lines_of(text)]
    if not all([is_data(data) for data in found]) or show_run(found) != text:
        raise NoText()
    return found


def read_deed(text):
    """The deed that a text, any value, writes."""
    _check_text(text)
    words = text.split(" ")
    if words[0] == "body":
        found = ("body",) + seen_function(text[len("body "):])
        if not is_deed(found) or not all([is_statement(item) for item in found[3]]):
            raise NoText()
    else:
        if words[0] in ("shut", "open") and len(words) == 3:
            found = (words[0], words[1], seen_address(words[2]))
        else:
            found = tuple(words)
        if not is_deed(found):
            raise NoText()
    if show_deed(found) != text:
        raise NoText()
    return found


def read_log(program, text):
    """The Book of a Program behind the deeds of the log that a text, any value, writes."""
    _check_text(text)
    deeds = [read_deed(line) for line in lines_of(text)]
    book = Book(program)
    for at, deed in enumerate(deeds):
        _do(book, at, deed)
    return book


def _do(book, at, deed):
    """Does the deed with the number at."""
    try:
        book.do(deed)
    except (Full, Refused):
        raise Broken(at) from None


def _check_text(text):
    if not isinstance(text, str):
        raise NoText()


def _joined(lines):
    """The text of these lines, each ended by a line feed."""
    return "".join([line + "\n" for line in lines])


def _shown_body(body):
    return "[" + "; ".join([show_statement(statement) for statement in body]) + "]"


def _shown_function(name, function):
    parameters, body, result = function
    head = " ".join([name] + list(parameters))
    return f"{head}: {_shown_body(body)} -> {result}"


def _shown_data(data):
    if data[0] == "body":
        return f"body {data[1]}"
    return " ".join([data[0]] + [name for names in data[1:] for name in names])
