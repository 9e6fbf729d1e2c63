import unittest

from halftruths import questions
from halftruths.errors import UnknownName, WrongMark
from tests.helpers import MARKS, by_side, check_raises, question

A = (1, 2, -3)
B = (4, -5, 6)


class NameForm(unittest.TestCase):
    def test_places(self):
        self.assertEqual(questions.name_form(("x",), "x"), (0, 1))
        self.assertEqual(questions.name_form(("x", "y", "z"), "x"), (0, 1, 0, 0))
        self.assertEqual(questions.name_form(("x", "y", "z"), "z"), (0, 0, 0, 1))
        self.assertEqual(questions.name_form(("y", "x"), "x"), (0, 0, 1))

    def test_unknown(self):
        check_raises(self, UnknownName, {"name": "x"}, questions.name_form, (), "x")
        check_raises(self, UnknownName, {"name": "x"}, questions.name_form, ("xx", "y"), "x")


class Marks(unittest.TestCase):
    def test_not(self):
        self.assertEqual(questions.not_form((0,)), (1,))
        self.assertEqual(questions.not_form(A), (0, -2, 3))

    def test_questions(self):
        for mark, told in (("plus", (4, -3, 3)), ("times", (4, -3, 3)), ("leads", (-3, 7, -9)),
                           ("and", (-3, 7, -9)), ("or", (-3, 7, -9)), ("same", (-3, 7, -9))):
            self.assertEqual(questions.question_of(mark, A, B), told)
        self.assertEqual(questions.question_of("plus", (0,), (0,)), (-1,))

    def test_sides(self):
        for mark, least, most in (("plus", (1, 0, 0), (5, -3, 3)), ("times", (4, -3, 3), (0, 0, 0)),
                                  ("leads", (4, -7, 9), (1, 0, 0)), ("and", B, A), ("or", A, B),
                                  ("same", (4, -7, 9), (-2, 7, -9))):
            self.assertEqual(questions.form_by_side(mark, "least", A, B), least, mark)
            self.assertEqual(questions.form_by_side(mark, "most", A, B), most, mark)

    def test_against_the_helpers(self):
        big = (10 ** 40, -3, 0, 1)
        small = (-1, 10 ** 30, 5, 2)
        for mark in MARKS:
            self.assertEqual(questions.question_of(mark, big, small), question(mark, big, small))
            for side in ("least", "most"):
                self.assertEqual(questions.form_by_side(mark, side, big, small), by_side(mark, side, big, small))

    def test_wrong_marks(self):
        for mark in ("", "not", "yes", "minus", "Plus", "least", "plu"):
            check_raises(self, WrongMark, {"mark": mark}, questions.question_of, mark, A, B)
            check_raises(self, WrongMark, {"mark": mark}, questions.form_by_side, mark, "least", A, B)
            check_raises(self, WrongMark, {"mark": mark}, questions.form_by_side, mark, "wrong", A, B)

    def test_wrong_sides(self):
        for side in ("", "Least", "less", "plus", "leastmost"):
            for mark in MARKS:
                check_raises(self, WrongMark, {"mark": side}, questions.form_by_side, mark, side, A, B)
