import random
import unittest
from fractions import Fraction

from halftruths import errors, products
from tests.helpers import HALF, NO, ONE, W, X, Y, YES, Z, ZERO, check_raises, neg, pair, point_of, worth
from tests.meanings import (place_of, plus_in_each_place, product_worth, random_meant, some_lengths,
                            with_meant_marks)

NAMES = ("x", "y", "z")
THIRD = (1, 3)


def check_products_first(test, function):
    """Fails if WrongMark, and then the bounds, do not come before all else; function takes a saying."""
    for bad in plus_in_each_place():
        check_raises(test, errors.WrongMark, {"mark": "plus"}, function, bad)
        check_raises(test, errors.WrongMark, {"mark": "plus"}, function, with_meant_marks(20, [X, Y, Z, W, bad]))
    for leaves, most in (([YES, NO], 12), ([X], 12), ([X, Y], 9), ([X, Y, Z], 7)):
        check_raises(test, errors.TooMany, {"what": "marks"}, function, with_meant_marks(most + 1, leaves))
    check_raises(test, errors.TooMany, {"what": "unknowns"}, function, with_meant_marks(3, [X, Y, Z, W]))
    check_raises(test, errors.TooMany, {"what": "unknowns"}, function, with_meant_marks(30, [X, Y, Z, W]))


def check_products_kept(function):
    for leaves, most in (([YES, NO], 12), ([X], 12), ([X, Y], 9), ([X, Y, Z], 7)):
        function(with_meant_marks(most, leaves))


class Grades(unittest.TestCase):
    def test_by_hand(self):
        for saying, told in ((neg(X), ZERO), (neg(neg(X)), ONE), (neg(NO), ONE), (("times", X, Y), (1, 6)),
                             (("and", X, Y), THIRD), (("or", X, Y), HALF), (("leads", X, Y), ONE),
                             (("leads", Y, X), (2, 3)), (("same", X, Y), (2, 3)), (("same", Y, X), (2, 3)),
                             (("same", X, X), ONE), (("leads", NO, NO), ONE), (("leads", X, NO), ZERO),
                             (("same", NO, NO), ONE), (("same", X, NO), ZERO), (("times", NO, X), ZERO)):
            self.assertEqual(products.product_grade(saying, ("x", "y"), (THIRD, HALF)), told)
        example = ("leads", ("leads", X, ("times", X, Y)), Y)
        self.assertEqual(products.product_grade(example, ("x", "y"), (ZERO, HALF)), HALF)
        self.assertEqual(products.product_grade(neg(neg(X)), ("x",), (ZERO,)), ZERO)

    def test_at_random(self):
        source = random.Random(131)
        for count, marks in ((0, 6), (1, 9), (2, 7), (3, 6)):
            for _ in range(40):
                saying = random_meant(source, marks, NAMES[:count])
                place = [Fraction(source.choice((0, 1, 2, 3, 5, 7)), 7) for _ in range(count)]
                told = pair(product_worth(saying, NAMES[:count], place))
                self.assertEqual(products.product_grade(saying, NAMES[:count], point_of(place)), told)

    def test_many_names(self):
        names = ("a", "b", "x", "c", "d")
        self.assertEqual(products.product_grade(("times", X, X), names, (ONE, ONE, THIRD, ZERO, ONE)), (1, 9))
        tiny = (1, 3 ** 1000)
        self.assertEqual(products.product_grade(with_meant_marks(0, [("times", X, X)]), ("x",), (tiny,)),
                         (1, 3 ** 2000))

    def test_errors_in_their_order(self):
        check_products_first(self, lambda saying: products.product_grade(saying, (), ()))
        check_products_kept(lambda saying: products.product_grade(saying, NAMES, (HALF, THIRD, ONE)))
        check_raises(self, errors.UnknownName, {"name": "y"}, products.product_grade, ("or", X, ("and", Y, Z)), ("x",),
                     (HALF,))
        check_raises(self, errors.UnknownName, {"name": "x"}, products.product_grade, X, ("a", "b", "c", "d"),
                     (HALF,) * 4)


class Lengths(unittest.TestCase):
    def test_by_hand(self):
        for saying, lengths, told in (
                (X, (3,), 3), (X, (None,), None), (neg(X), (3,), None), (neg(X), (None,), 0), (YES, (5,), 0),
                (NO, (5,), None), (("times", X, X), (3,), 6), (("times", X, NO), (3,), None),
                (("leads", X, YES), (3,), 0), (("leads", YES, X), (3,), 3), (("leads", X, NO), (3,), None),
                (("leads", NO, X), (None,), 0), (("and", X, YES), (3,), 3), (("or", X, NO), (3,), 3),
                (("same", X, NO), (None,), 0), (("same", X, NO), (0,), None), (("same", YES, X), (4,), 4)):
            self.assertEqual(products.product_length(saying, ("x",), lengths), told)
        self.assertEqual(products.product_length(("leads", X, Y), ("x", "y"), (2, 7)), 5)
        self.assertEqual(products.product_length(("leads", X, Y), ("x", "y"), (7, 2)), 0)

    def test_grades(self):
        source = random.Random(132)
        for count, marks in ((0, 5), (1, 8), (2, 7), (3, 6)):
            for _ in range(12):
                saying = random_meant(source, marks, NAMES[:count])
                for lengths in some_lengths(count, 3):
                    length = products.product_length(saying, NAMES[:count], lengths)
                    self.assertEqual(product_worth(saying, NAMES[:count], place_of(lengths)), place_of([length])[0])
                    self.assertIs(type(length), int if length is not None else type(None))

    def test_great_lengths(self):
        self.assertEqual(products.product_length(("times", X, X), ("x",), (10 ** 50,)), 2 * 10 ** 50)

    def test_values_from_zero_to_one(self):
        # For sayings of these words the value at ((D - l1) / D, ..) is (D - L) / D.
        source = random.Random(133)
        for _ in range(40):
            saying = random_meant(source, 5, ("x", "y"), 0)
            if any(word in str(saying) for word in ("'no'", "'not'")):
                continue
            for lengths in ((0, 0), (1, 2), (3, 1), (0, 4), (5, 2)):
                below = 6 * (sum(lengths) + 1)
                length = products.product_length(saying, ("x", "y"), lengths)
                place = [Fraction(below - each, below) for each in lengths]
                self.assertEqual(worth(saying, ("x", "y"), place), Fraction(below - length, below))

    def test_errors_in_their_order(self):
        check_products_first(self, lambda saying: products.product_length(saying, (), ()))
        check_products_kept(lambda saying: products.product_length(saying, NAMES, (1, None, 2)))
        check_raises(self, errors.UnknownName, {"name": "y"}, products.product_length, ("or", X, ("and", Y, Z)),
                     ("x",), (1,))


class Points(unittest.TestCase):
    def test_points(self):
        self.assertEqual(products.product_point(()), ())
        self.assertEqual(products.product_point((0, None, 1, 3)), (ONE, ZERO, HALF, (1, 8)))
        self.assertEqual(products.product_point((1000,)), ((1, 2 ** 1000),))
        self.assertEqual(products.product_point((None,) * 5), (ZERO,) * 5)

    def test_too_great(self):
        for lengths in ((1001,), (None, 1001), (0, 10 ** 30, None), (1000, 1001)):
            check_raises(self, errors.TooGreat, {"what": "length"}, products.product_point, lengths)

    def test_cases(self):
        self.assertEqual(products.cases_of(0), ((),))
        self.assertEqual(products.cases_of(1), ((0,), (1,)))
        self.assertEqual(products.cases_of(2), ((0, 0), (0, 1), (1, 0), (1, 1)))
        cases = products.cases_of(3)
        self.assertEqual((len(cases), list(cases)), (8, sorted(cases)))

    def test_zero_in_a_case(self):
        source = random.Random(134)
        for _ in range(60):
            saying = random_meant(source, 5, NAMES)
            for case in products.cases_of(3):
                zero = worth(saying, NAMES, list(case)) == 0
                for positive in (0, 1, 4):
                    lengths = tuple(positive if entry else None for entry in case)
                    self.assertIs(products.product_length(saying, NAMES, lengths) is None, zero)
