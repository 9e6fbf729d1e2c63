"""Sayings, values and points written as texts, and sayings and values read from texts."""

from halftruths.errors import BadText, OutOfRange, TooGreat
from halftruths.sayings import LETTERS, LETTERS_AND_DIGITS, MARKS, MOST_DEPTH, MOST_WORDS, depth_of, is_name, words_in
from halftruths.values import fraction

MOST_CHARACTERS = 4000
MOST_OPEN = 60
MOST_DIGITS = 20
DIGITS = "0123456789"


def saying_text(saying):
    """The text of a saying."""
    kind = saying[0]
    if kind == "unknown":
        return saying[1]
    if kind == "yes" or kind == "no":
        return kind
    if kind == "not":
        return "not " + saying_text(saying[1])
    return "(" + saying_text(saying[1]) + " " + kind + " " + saying_text(saying[2]) + ")"


def value_text(value):
    """The text of a value."""
    return str(value[0]) if value[1] == 1 else f"{value[0]}/{value[1]}"


def point_text(names, point):
    """The text of a point for names."""
    return ", ".join([name + "=" + value_text(value) for name, value in zip(names, point)])


def tokens_of(text):
    """The list of the pairs (token, place) of a text of a saying, behind them an empty token at the end."""
    found = []
    place = 0
    while place < len(text):
        sign = text[place]
        end = place + 1
        if sign in LETTERS:
            while end < len(text) and text[end] in LETTERS_AND_DIGITS:
                end += 1
        elif sign not in " ()":
            raise BadText(place)
        if sign != " ":
            found.append((text[place:end], place))
        place = end
    return found + [("", len(text))]


class Reader:
    """Reads a saying from tokens, one by one."""

    def __init__(self, tokens):
        self.tokens = tokens
        self.at = 0

    def token(self):
        """The next token that is not read yet."""
        return self.tokens[self.at][0]

    def expect(self, fits):
        """Reads the next token; raises BadText if it does not fit."""
        if not fits:
            raise BadText(self.tokens[self.at][1])
        self.at += 1
        return self.tokens[self.at - 1][0]

    def saying(self, brackets):
        """Reads a saying that stands in so many open brackets."""
        nots = 0
        while self.token() == "not":
            self.expect(True)
            nots += 1
        if self.token() == "(":
            found = self.bracket(brackets)
        elif self.token() == "yes" or self.token() == "no":
            found = (self.expect(True),)
        else:
            found = ("unknown", self.expect(is_name(self.token())))
        for _ in range(nots):
            found = ("not", found)
        return found

    def bracket(self, brackets):
        """Reads two sayings and their mark in brackets."""
        self.expect(brackets < MOST_OPEN)
        first = self.saying(brackets + 1)
        mark = self.expect(self.token() in MARKS)
        second = self.saying(brackets + 1)
        self.expect(self.token() == ")")
        return (mark, first, second)


def read_saying(text):
    """The saying of a text."""
    if len(text) > MOST_CHARACTERS:
        raise BadText(MOST_CHARACTERS)
    reader = Reader(tokens_of(text))
    saying = reader.saying(0)
    reader.expect(reader.token() == "")
    if words_in(saying) > MOST_WORDS:
        raise TooGreat("words")
    if depth_of(saying) > MOST_DEPTH:
        raise TooGreat("depth")
    return saying


def digits_end(text, start):
    """The place behind the digits of a number that begins at a place of a text; no digit follows a `0` in front."""
    end = start
    while end < len(text) and end < start + MOST_DIGITS and text[end] in DIGITS:
        end += 1
    return start + 1 if text[start:end].startswith("0") else end


def read_value(text):
    """The value of a text."""
    end = digits_end(text, 0)
    if end == 0:
        raise BadText(0)
    above = int(text[:end])
    below = 1
    if end < len(text) and text[end] == "/":
        start = end + 1
        end = digits_end(text, start)
        if end == start or text[start] == "0":
            raise BadText(start)
        below = int(text[start:end])
    if end < len(text):
        raise BadText(end)
    if above > below:
        raise OutOfRange((above, below))
    return fraction(above, below)
