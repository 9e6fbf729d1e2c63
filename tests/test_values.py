import random
import unittest
from fractions import Fraction

from halftruths import values
from halftruths.errors import OutOfRange, UnknownName
from tests.helpers import (HALF, MARKS, NO, ONE, X, Y, YES, Z, ZERO, chained, check_raises, given, neg, nots, pair,
                           point_of, random_saying, worth)


class IsValue(unittest.TestCase):
    def test_values(self):
        for value in ((0, 1), (1, 1), (1, 2), (2, 3), (10 ** 60, 10 ** 60 + 1)):
            self.assertIs(values.is_value(value), True, value)

    def test_no_values(self):
        for value in ((2, 4), (0, 2), (2, 2), (3, 2), (-1, 2), (1, -2), (0, 0), (1, 0), (0, -1), (-1, -2), (1,), (),
                      (1, 2, 3), 1, 0, True, None, "1/2", ("1", 2), (True, 1), (False, 1), (1, True), (0, True),
                      (None, 1), ((1, 2), (1, 2)), (10 ** 60, 2 * 10 ** 60)):
            self.assertIs(values.is_value(value), False, value)


class FractionOf(unittest.TestCase):
    def test_in_lowest_terms(self):
        for above, below, value in ((0, 5, ZERO), (0, -5, ZERO), (5, 5, ONE), (-5, -5, ONE), (2, 4, HALF),
                                    (-2, -4, HALF), (6, 9, (2, 3)), (7 * 10 ** 50, 14 * 10 ** 50, HALF)):
            self.assertEqual(values.fraction(above, below), value)

    def test_out_of_range(self):
        for above, below in ((-1, 2), (1, -2), (3, 2), (-3, -2), (6, 4), (10 ** 40 + 1, 10 ** 40)):
            check_raises(self, OutOfRange, {"value": (above, below)}, values.fraction, above, below)


class Compared(unittest.TestCase):
    def test_all_small_ones(self):
        some = [(p, q) for q in range(1, 8) for p in range(q + 1) if values.is_value((p, q))]
        for first in some:
            for second in some:
                a, b = Fraction(*first), Fraction(*second)
                self.assertEqual(values.compared(first, second), (a > b) - (a < b))

    def test_great_ones(self):
        big = 10 ** 50
        self.assertEqual(values.compared((big, big + 1), (big + 1, big + 2)), -1)
        self.assertEqual(values.compared((big + 1, big + 2), (big, big + 1)), 1)


class Denominator(unittest.TestCase):
    def test_denominator(self):
        for point, denominator in (((), 1), ((ZERO, ONE), 1), ((HALF, (2, 3)), 6), (((1, 4), (1, 6), (5, 6)), 12)):
            self.assertEqual(values.denominator_of(point), denominator)


class Given(unittest.TestCase):
    def test_table(self):
        some = [(p, q) for q in range(1, 7) for p in range(q + 1) if values.is_value((p, q))]
        for mark in MARKS:
            for first in some:
                for second in some:
                    told = pair(given(mark, Fraction(*first), Fraction(*second)))
                    self.assertEqual(values.given_by(mark, first, second), told, (mark, first, second))

    def test_great_denominators(self):
        big = 10 ** 40
        self.assertEqual(values.given_by("plus", (1, big), (1, big + 1)), (2 * big + 1, big * (big + 1)))


class ValueAt(unittest.TestCase):
    def test_leaves(self):
        self.assertEqual(values.value_at(YES, (), ()), ONE)
        self.assertEqual(values.value_at(NO, ("x",), (HALF,)), ZERO)
        self.assertEqual(values.value_at(X, ("y", "x"), (HALF, (2, 3))), (2, 3))
        self.assertEqual(values.value_at(neg(X), ("x",), ((1, 3),)), (2, 3))

    def test_marks(self):
        point = ((2, 3), (1, 4))
        for mark, value in (("plus", (11, 12)), ("times", ZERO), ("leads", (7, 12)), ("and", (1, 4)),
                            ("or", (2, 3)), ("same", (7, 12))):
            self.assertEqual(values.value_at((mark, X, Y), ("x", "y"), point), value)
        self.assertEqual(values.value_at(("leads", Y, X), ("x", "y"), point), ONE)
        self.assertEqual(values.value_at(("same", Y, X), ("x", "y"), point), (7, 12))
        self.assertEqual(values.value_at(("times", ("plus", X, Y), X), ("x", "y"), point), (7, 12))

    def test_at_random(self):
        source = random.Random(2)
        names = ("x", "y", "z", "w")
        for _ in range(300):
            saying = random_saying(source, source.randrange(12), names[:source.randrange(1, 5)])
            coordinates = [Fraction(source.randrange(k + 1), k) for k in (3, 4, 7, 10 ** 30)]
            self.assertEqual(values.value_at(saying, names, point_of(coordinates)),
                             pair(worth(saying, names, coordinates)))

    def test_great_sayings(self):
        self.assertEqual(values.value_at(nots(X, 60), ("x",), ((1, 7),)), (1, 7))
        self.assertEqual(values.value_at(chained("plus", [X] * 60), ("x",), ((1, 90),)), (2, 3))

    def test_unknown_name(self):
        saying = ("and", ("or", Z, X), Y)
        check_raises(self, UnknownName, {"name": "z"}, values.value_at, saying, (), ())
        check_raises(self, UnknownName, {"name": "x"}, values.value_at, saying, ("z",), (ONE,))
        check_raises(self, UnknownName, {"name": "y"}, values.value_at, saying, ("x", "z"), (ONE, ONE))
        check_raises(self, UnknownName, {"name": "x"}, values.value_at, ("and", NO, X), ("xx",), (ONE,))
