import random
import unittest

from halftruths.book import Book
from halftruths.desk import Desk
from halftruths.errors import HalfError
from halftruths.likeness import are_alike
from halftruths.texts import read_saying, saying_text, value_text
from tests.helpers import X, Y, neg, random_saying, with_marks
from tests.webs import KEPT_AND_PASSED

WORDS = ("hold", "drop", "range", "ask", "uses", "alike", "held", "undo", "redo")


class Lines(unittest.TestCase):
    def talk(self, *lines, desk=None):
        desk = Desk() if desk is None else desk
        for line, answer in lines:
            self.assertEqual(desk.line(line), answer, line)
        return desk

    def test_a_talk(self):
        desk = self.talk(
            ("held", ""), ("range x", "0 1"), ("ask x", "open"), ("uses x", "none"), ("uses yes", "0"),
            ("hold (x or y)", "held 0"), ("hold not x", "held 1"), ("held", "(x or y); not x"), ("range y", "1 1"),
            ("ask y", "sure"), ("ask x", "never"), ("ask z", "open"), ("uses y", "2"), ("uses x", "none"),
            ("drop 0", "ok"), ("held", "not x"), ("undo", "ok"), ("held", "(x or y); not x"), ("redo", "ok"),
            ("redo", "error redo"), ("hold x", "held 1"), ("range y", "none"), ("ask y", "none"), ("uses y", "2"),
            ("undo", "ok"), ("undo", "ok"), ("undo", "ok"), ("undo", "ok"), ("undo", "error undo"), ("held", ""))
        self.assertIs(type(desk.book), Book)
        self.assertEqual(desk.book, Book())

    def test_ranges(self):
        self.talk(("hold (x same not x)", "held 0"), ("range x", "1/2 1/2"), ("range (x and y)", "0 1/2"),
                  ("range (x or y)", "1/2 1"), ("ask (x or y)", "open"), ("range no", "0 0"), ("range yes", "1 1"))
        self.talk(("hold (y same (x times x))", "held 0"), ("hold (x same not y)", "held 1"), ("range x", "2/3 2/3"))

    def test_alike(self):
        desk = self.talk(("alike x=x", "yes"), ("alike x = y", "no"), ("alike not not x = x", "yes"),
                         ("alike (x and y)=(x times (x leads y))", "yes"), ("alike yes= no", "no"))
        # Whatever is held.
        self.talk(("hold x", "held 0"), ("alike x = yes", "no"), ("hold not x", "held 1"), ("alike x = y", "no"),
                  ("alike x =x", "yes"), desk=desk)

    def test_other_forms(self):
        desk = Desk()
        for line in ("", " ", "x", "help", "Hold x", "holdx", " hold x", "hold(x or y)", "alike", "alike x", "alike x y",
                     "alike (x or y)", "drop", "drop ", "drop x", "drop 1 ", "drop  1", "drop 1234", "drop -1", "drop +1",
                     "drop 1.", "drop 0x1", "drop 1 2", "held x", "held  ", "undo 1", "redo x", "undo  ", "undo undo",
                     "heldd", "range=x", "askx", "drop 1_0", "drop 12a", "drop (", "undos", "~", "yes", "not x", "hol d x",
                     "alike  ", "what"):
            self.assertEqual(desk.line(line), "what", line)
        self.assertEqual(desk.book.held(), ())

    def test_blank_behind_a_word(self):
        self.talk(("held ", ""), ("undo ", "error undo"), ("redo ", "error redo"), ("hold x", "held 0"), ("undo ", "ok"),
                  ("redo ", "ok"), ("held ", "x"))

    def test_text_errors(self):
        for word in ("hold", "range", "ask", "uses"):
            for rest in ("", " ", " " + " ", " X", " (x or", " x y", " (x or y))", " plus", " 1", " abcdefghi", " x = y"):
                self.talk((word + rest, "error text"))
        self.talk(("alike = ", "error text"), ("alike x=", "error text"), ("alike =x", "error text"),
                  ("alike x==x", "error text"), ("alike x = x = x", "error text"), ("alike (x or) = x", "error text"))

    def test_great(self):
        long = "not " * 61 + "x"
        for word in ("hold", "range", "ask", "uses"):
            self.talk((word + " " + long, "error great"), (word + " " + "x" + " " * 4000, "error text"))
        # The sayings are read from left to right.
        self.talk(("alike " + long + " = (", "error great"), ("alike ( = " + long, "error text"),
                  ("alike x = " + long, "error great"), ("hold " + "not " * 60 + "x", "held 0"))

    def test_many(self):
        texts = [saying_text(with_marks(size, [X, Y])) for size in (9, 10)]
        self.talk(("hold " + texts[1], "error many"), ("range " + texts[1], "error many"), ("ask " + texts[1], "error many"),
                  ("uses " + texts[1], "error many"), ("alike x = " + texts[1], "error many"), ("alike x = " + texts[0], "no"),
                  ("hold " + texts[0], "held 0"), ("range (x or y)", "error many"), ("hold (x or y)", "error many"),
                  ("range z", "error many"), ("range x", "1 1"), ("held", texts[0]))
        self.talk(*[("hold x", "held {}".format(k)) for k in range(4)], ("hold x", "error many"), ("held", "x; x; x; x"))
        self.talk(("hold (x or y)", "held 0"), ("hold (z or w)", "error many"), ("ask (z or w)", "error many"))
        passed = saying_text(KEPT_AND_PASSED[0][2])
        self.talk(("uses " + passed, "error many"), ("ask " + passed, "open"))

    def test_range_errors(self):
        self.talk(("drop 0", "error range"), ("hold x", "held 0"), ("drop 1", "error range"), ("drop 999", "error range"),
                  ("drop 00", "ok"), ("hold x", "held 0"), ("hold y", "held 1"), ("drop 001", "ok"), ("held", "x"),
                  ("drop 000", "ok"), ("held", ""))

    def test_errors_change_nothing(self):
        desk = self.talk(("hold x", "held 0"), ("hold y", "held 1"), ("undo", "ok"))
        for line in ("hold (", "hold " + "not " * 70 + "x", "hold " + saying_text(with_marks(10, [X, Y])), "drop 1", "drop x",
                     "hold", "undo 1", "range (x", "alike (x = x", "uses )", "ask 1", "held 1"):
            self.assertIn(desk.line(line), ("what", "error text", "error great", "error many", "error range"))
            self.assertEqual(desk.book.held(), (X,))
        self.talk(("redo", "ok"), ("held", "x; y"), desk=desk)

    def test_book_of_its_own(self):
        first, second = Desk(), Desk()
        first.line("hold x")
        self.assertEqual(second.line("held"), "")
        with first.book:
            first.line("hold y")
            self.assertEqual(first.line("held"), "x; y")
        self.assertEqual(first.line("held"), "x")
        first.book.hold(neg(X))
        self.assertEqual(first.line("ask y"), "none")

    def test_at_random(self):
        source = random.Random(371)
        desk, book = Desk(), Book()
        for _ in range(500):
            word = source.choice(WORDS)
            saying = random_saying(source, source.randrange(3), ("x", "y"))
            text = saying_text(saying)
            if word == "alike":
                other = random_saying(source, 1, ("x", "y"))
                answer = "yes" if are_alike(saying, other) else "no"
                self.assertEqual(desk.line("alike {} = {}".format(text, saying_text(other))), answer)
                continue
            number = source.randrange(5)
            line = {"drop": "drop {}".format(number), "held": "held", "undo": "undo", "redo": "redo"}.get(word, word + " " + text)
            self.assertEqual(desk.line(line), self.expected(book, word, saying, number), line)
            self.assertEqual(desk.book, book)

    def expected(self, book, word, saying, number):
        try:
            if word == "hold":
                return "held {}".format(book.hold(saying))
            if word == "ask":
                return book.answer(saying)
            if word == "uses":
                uses = book.uses_for(saying)
                return "none" if uses is None else str(uses)
            if word == "held":
                return "; ".join(saying_text(each) for each in book)
            if word == "range":
                found = book.range_of(saying)
                return "none" if found is None else value_text(found[0][0]) + " " + value_text(found[1][0])
            {"drop": lambda: book.drop(number), "undo": book.undo, "redo": book.redo}[word]()
            return "ok"
        except HalfError as error:
            names = {"BadText": "text", "TooGreat": "great", "TooMany": "many", "OutOfRange": "range",
                     "NothingToUndo": "undo", "NothingToRedo": "redo"}
            return "error " + names[type(error).__name__]

    def test_what_is_held_is_what_was_read(self):
        desk = self.talk(("hold  ( x   plus y )", "held 0"), ("held", "(x plus y)"))
        self.assertEqual(desk.book.held(), (read_saying("(x plus y)"),))
