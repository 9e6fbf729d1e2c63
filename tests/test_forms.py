import random
import unittest
from fractions import Fraction

from halftruths import forms
from tests.helpers import HALF, ONE, ZERO, form_worth, pair, point_of


class IsForm(unittest.TestCase):
    def test_forms(self):
        for value, count in (((0,), 0), ((-5,), 0), ((1, 2), 1), ((0, 0, 0, 0), 3), ((1, 2, 3, 4, 10 ** 60), 4)):
            self.assertIs(forms.is_form(value, count), True)

    def test_no_forms(self):
        for value, count in (((), 0), ((1,), 1), ((1, 2), 0), ((1, 2, 3), 1), ((True,), 0), ((0, False), 1), (0, 0),
                             ((1, "2"), 1), ((1, None), 1), ("ab", 1), ((1, (2,)), 1), (None, 0), (((1, 2), 3), 1)):
            self.assertIs(forms.is_form(value, count), False, value)


class FormAt(unittest.TestCase):
    def test_lowest_terms(self):
        for form, point, told in (((7,), (), (7, 1)), ((0,), (), (0, 1)), ((-3,), (), (-3, 1)),
                                  ((0, 0), (HALF,), (0, 1)), ((-1, 2), (HALF,), (0, 1)), ((1, 1), (HALF,), (3, 2)),
                                  ((-1, 0, 1), (HALF, (1, 3)), (-2, 3)), ((0, 1, 1), (HALF, HALF), (1, 1)),
                                  ((0, -1), (HALF,), (-1, 2)), ((0, 5, -5, 1), (ONE, ONE, ZERO), (0, 1))):
            self.assertEqual(forms.form_at(form, point), told)

    def test_at_random(self):
        source = random.Random(3)
        for _ in range(200):
            count = source.randrange(5)
            form = tuple(source.randrange(-10 ** 20, 10 ** 20) for _ in range(count + 1))
            coordinates = [Fraction(source.randrange(k + 1), k) for k in (6, 10, 7, 10 ** 9)[:count]]
            self.assertEqual(forms.form_at(form, point_of(coordinates)),
                             pair(Fraction(form_worth(form, coordinates))))


class FacesAndSums(unittest.TestCase):
    def test_faces(self):
        self.assertEqual(forms.faces(0), ())
        self.assertEqual(forms.faces(1), ((0, 1), (1, -1)))
        self.assertEqual(forms.faces(2), ((0, 1, 0), (1, -1, 0), (0, 0, 1), (1, 0, -1)))
        self.assertEqual(forms.faces(3), ((0, 1, 0, 0), (1, -1, 0, 0), (0, 0, 1, 0), (1, 0, -1, 0),
                                          (0, 0, 0, 1), (1, 0, 0, -1)))
        self.assertEqual(len(forms.faces(4)), 8)

    def test_summed(self):
        self.assertEqual(forms.summed(((1, 2), (3, -4)), (5, 6)), (23, -14))
        self.assertEqual(forms.summed(((1, 2), (3, -4)), (0, 0)), (0, 0))
        self.assertEqual(forms.summed(((1, 2), (3, -4)), (-1, 1)), (2, -6))
        self.assertEqual(forms.summed(((7,),), (10 ** 40,)), (7 * 10 ** 40,))
        self.assertEqual(forms.summed(((1, 2, 3),), (1,)), (1, 2, 3))
