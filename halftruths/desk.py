"""Desks: a book that is asked by lines of text."""

from halftruths.book import Book
from halftruths.errors import BadText, NothingToRedo, NothingToUndo, OutOfRange, TooGreat, TooMany
from halftruths.likeness import are_alike
from halftruths.texts import DIGITS, read_saying, saying_text, value_text

WITH_NOTHING = ("held", "undo", "redo")
WITH_SAYING = ("hold", "range", "ask", "uses")
MOST_DIGITS = 3


def has_form(word, rest):
    """Whether a line has one of the forms that are answered: its first word, and all behind the blank after it."""
    if word in WITH_NOTHING:
        return rest == ""
    if word == "drop":
        return 1 <= len(rest) <= MOST_DIGITS and all([sign in DIGITS for sign in rest])
    return word in WITH_SAYING or (word == "alike" and "=" in rest)


class Desk:
    """Answers lines about a book."""

    def __init__(self):
        self.book = Book()

    def line(self, text):
        """The answer to a line."""
        word, _, rest = text.partition(" ")
        if not has_form(word, rest):
            return "what"
        try:
            return self.answer_to_line(word, rest)
        except BadText:
            return "error text"
        except TooGreat:
            return "error great"
        except TooMany:
            return "error many"
        except OutOfRange:
            return "error range"
        except NothingToUndo:
            return "error undo"
        except NothingToRedo:
            return "error redo"

    def answer_to_line(self, word, rest):
        """The answer to a line that has a form; errors go on."""
        if word == "held":
            return "; ".join([saying_text(saying) for saying in self.book.held()])
        if word == "alike":
            first, _, second = rest.partition("=")
            sayings = (read_saying(first), read_saying(second))
            return "yes" if are_alike(sayings[0], sayings[1]) else "no"
        if word in WITH_SAYING:
            return self.answer_to_saying(word, read_saying(rest))
        if word == "drop":
            self.book.drop(int(rest))
        elif word == "undo":
            self.book.undo()
        else:
            self.book.redo()
        return "ok"

    def answer_to_saying(self, word, saying):
        """The answer to a line about one saying."""
        if word == "hold":
            return "held " + str(self.book.hold(saying))
        if word == "ask":
            return self.book.answer(saying)
        if word == "uses":
            uses = self.book.uses_for(saying)
            return "none" if uses is None else str(uses)
        found = self.book.range_of(saying)
        return "none" if found is None else value_text(found[0][0]) + " " + value_text(found[1][0])
