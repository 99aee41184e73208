"""Reading: what texts seem to write.

Whether a text writes just this, and in just this way, is looked at by those who ask: they write it anew.
"""

from landedback.errors import NoText

MOST_BRACKETS = 60
MOST_DIGITS = 9


class Reader:
    """A text of statements that is read from its begin on; it is changed as it is read."""

    def __init__(self, text):
        spaced = text.replace("[", " [ ").replace("]", " ] ").replace(";", " ; ")
        self._tokens = [token for token in spaced.split(" ") if token != ""]
        self._at = 0
        # Bodies are read within bodies, which must not go too deep.
        if _deepest(self._tokens) > MOST_BRACKETS:
            raise NoText()

    def is_done(self):
        """Whether all of the text was read."""
        return self._at == len(self._tokens)

    def body_next(self):
        """The body that stands next."""
        found = []
        self._pass("[")
        while self._token() != "]":
            if len(found) > 0:
                self._pass(";")
            found.append(self.statement_next())
        self._pass("]")
        return found

    def statement_next(self):
        """The statement that stands next, or what has the look of one."""
        word = self._take()
        if word == "either":
            found = []
            while self._token() == "[":
                found.append(self.body_next())
            return (word, found)
        if word == "loop":
            return (word, self.body_next())
        if word == "mark":
            cell = self._take()
            body = self.body_next()
            return (word, cell, body, self.body_next())
        words = []
        while self._token() not in ("", "[", "]", ";"):
            words.append(self._take())
        if word == "call" and len(words) > 1:
            return (word, words[0], words[1], tuple(words[2:]))
        return (word,) + tuple(words)

    def _token(self):
        """The next word or sign, "" at the end."""
        return "" if self.is_done() else self._tokens[self._at]

    def _take(self):
        """The next word or sign, which is read by that."""
        if self.is_done():
            raise NoText()
        self._at += 1
        return self._tokens[self._at - 1]

    def _pass(self, sign):
        if self._take() != sign:
            raise NoText()


def _deepest(tokens):
    """How many brackets are open at once."""
    deepest = 0
    many = 0
    for token in tokens:
        if token == "[":
            many += 1
            deepest = max(deepest, many)
        elif token == "]":
            many -= 1
    return deepest


def seen_statement(text):
    """The statement that a text seems to write."""
    reader = Reader(text)
    found = reader.statement_next()
    if not reader.is_done():
        raise NoText()
    return found


def seen_function(line):
    """The tuple (name, parameters, body, result) of the function that a line seems to write."""
    head, _, rest = line.partition(":")
    inner, _, result = rest.rpartition("->")
    reader = Reader(inner)
    body = reader.body_next()
    if not reader.is_done():
        raise NoText()
    words = head.split(" ")
    return (words[0], words[1:], body, result.strip(" "))


def seen_address(text):
    """The address that a text seems to write."""
    return tuple([_seen_number(part) for part in text.split(".")])


def seen_data(line):
    """The data that a line seems to write."""
    words = line.split(" ")
    if words[0] == "body" and len(words) == 2:
        return ("body", _seen_number(words[1]))
    if words == ["go"]:
        return ("go",)
    return (words[0], tuple(words[1:]))


def _seen_number(text):
    if not text.isascii() or not text.isdigit() or len(text) > MOST_DIGITS:
        raise NoText()
    return int(text)


def lines_of(text):
    """The list of the lines of a text, each of which a line feed ends."""
    if text == "":
        return []
    if not text.endswith("\n"):
        raise NoText()
    return text[:-1].split("\n")
