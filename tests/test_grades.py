import itertools
import random
import unittest
from fractions import Fraction

from halftruths import errors, grades
from halftruths.orders import order_value
from halftruths.products import product_grade
from halftruths.values import value_at
from tests.chaining import TOP, chain_worth, mark_grade, plain_grade, told_grade
from tests.helpers import HALF, NO, ONE, W, X, Y, YES, Z, ZERO, check_raises, neg, pair
from tests.meanings import MEANT, plus_in_each_place, random_meant, with_meant_marks

KINDS = ("sum", "product", "step")
THIRD = (1, 3)
LEAST = ("in", 0, ZERO)


def some_grades(pieces, parts=(0, 1, 2, 3)):
    return [("in", k, pair(Fraction(number, 4))) for k in range(pieces) for number in parts] + [TOP]


class IsGrade(unittest.TestCase):
    def test_by_hand(self):
        for value, pieces in ((TOP, 1), (LEAST, 1), (("in", 0, HALF), 1), (("in", 5, (999, 1000)), 6), (TOP, 99)):
            self.assertIs(grades.is_grade(value, pieces), True)
        for value in (None, True, 0, "one", (), ("one", 0), ("two",), ("in", 0), ("in", 1, HALF), ("in", -1, HALF),
                      ("in", 0, ONE), ("in", 0, (2, 4)), ("in", 0, (3, 2)), ("in", True, HALF), ("in", False, HALF),
                      ("in", 0, None), ("on", 0, HALF), ("in", "0", HALF), ("in", 0, HALF, 0), (("one",),),
                      ("in", 0, (0, 2)), ("in", 0, (-1, 2)), ("in", None, HALF), ("one", "one", "one")):
            self.assertIs(grades.is_grade(value, 1), False, value)
        for k in range(8):
            self.assertIs(grades.is_grade(("in", k, HALF), 6), k < 6)

    def test_order(self):
        ascending = [LEAST, ("in", 0, THIRD), ("in", 0, HALF), ("in", 0, (9, 10)), ("in", 1, ZERO), ("in", 1, HALF),
                     ("in", 2, ZERO), ("in", 5, (99, 100)), TOP]
        for (k, first), (j, second) in itertools.product(enumerate(ascending), repeat=2):
            self.assertIs(type(grades.compared_grades(first, second)), int)
            self.assertEqual(grades.compared_grades(first, second), (k > j) - (k < j))


class Given(unittest.TestCase):
    def test_each_kind_with_each_mark(self):
        for kind in KINDS:
            for kinds in ((kind,), (kind, "sum", "step"), ("product", kind, "sum")):
                for mark in MEANT:
                    for a, b in itertools.product(some_grades(len(kinds)), repeat=2):
                        told = told_grade(mark_grade(mark, kinds, plain_grade(a), plain_grade(b)))
                        self.assertEqual(grades.chain_given(mark, kinds, a, b), told, (mark, kinds, a, b))
                        self.assertTrue(grades.is_grade(told, len(kinds)))

    def test_by_hand(self):
        given = grades.chain_given
        for kind, times, leads in (("sum", (1, 6), (5, 6)), ("product", (1, 3), (3, 4)), ("step", (1, 2), (1, 2))):
            a, b = ("in", 3, (2, 3)), ("in", 3, HALF)
            kinds = ("step", "step", "sum", kind)
            self.assertEqual(given("times", kinds, a, b), ("in", 3, times))
            self.assertEqual(given("leads", kinds, a, b), ("in", 3, leads))
            self.assertEqual(given("same", kinds, b, a), ("in", 3, leads))
            self.assertEqual(given("leads", kinds, b, a), TOP)
            self.assertEqual(given("leads", kinds, a, a), TOP)
            self.assertEqual(given("leads", kinds, TOP, a), a)
            self.assertEqual(given("times", kinds, TOP, TOP), TOP)
            self.assertEqual(given("leads", kinds, a, LEAST), LEAST)
            self.assertEqual(given("times", kinds, a, LEAST), LEAST)
        self.assertEqual(given("leads", ("product",), ("in", 0, HALF), LEAST), LEAST)
        self.assertEqual(given("leads", ("sum",), ("in", 0, HALF), LEAST), ("in", 0, HALF))
        self.assertEqual(given("times", ("sum",), ("in", 0, HALF), ("in", 0, HALF)), LEAST)

    def test_plus(self):
        for a, b in itertools.product((TOP, LEAST, ("in", 0, HALF)), repeat=2):
            check_raises(self, errors.WrongMark, {"mark": "plus"}, grades.chain_given, "plus", ("sum",), a, b)


class Values(unittest.TestCase):
    def test_at_random(self):
        source = random.Random(221)
        names = ("x", "y", "z", "w")
        for size in range(1, 7):
            for _ in range(60):
                kinds = tuple(source.choice(KINDS) for _ in range(size))
                saying = random_meant(source, source.randrange(9), names)
                chosen = [source.choice(some_grades(size, (0, 1, 3))) for _ in names]
                told = told_grade(chain_worth(saying, kinds, names, [plain_grade(grade) for grade in chosen]))
                self.assertEqual(grades.chain_value(saying, kinds, names, tuple(chosen)), told)

    def test_leaves(self):
        for kind in KINDS:
            self.assertEqual(grades.chain_value(YES, (kind,), (), ()), TOP)
            self.assertEqual(grades.chain_value(NO, (kind,), (), ()), LEAST)
            self.assertEqual(grades.chain_value(neg(NO), (kind,), (), ()), TOP)
            self.assertEqual(grades.chain_value(neg(X), (kind,), ("x",), (LEAST,)), TOP)
            self.assertEqual(grades.chain_value(neg(X), (kind, kind), ("x",), (("in", 1, HALF),)), LEAST)
            told = ("in", 0, (2, 3)) if kind == "sum" else LEAST
            self.assertEqual(grades.chain_value(neg(X), (kind,), ("x",), (("in", 0, THIRD),)), told)

    def test_one_piece_is_what_is_known(self):
        # One piece `sum` has the values from 0 to 1, one `product` the grades by products, one `step` those by order.
        source = random.Random(222)
        for _ in range(150):
            saying = random_meant(source, source.randrange(6), ("x", "y"))
            point = tuple(pair(Fraction(source.randrange(7), 6)) for _ in range(2))
            at = tuple(TOP if value == ONE else ("in", 0, value) for value in point)
            for kind, function in (("sum", value_at), ("product", product_grade), ("step", order_value)):
                value = function(saying, ("x", "y"), point)
                self.assertEqual(grades.chain_value(saying, (kind,), ("x", "y"), at),
                                 TOP if value == ONE else ("in", 0, value))

    def test_great_sayings(self):
        deep = X
        for k in range(60):
            deep = ("leads", deep, Y) if k % 2 else neg(deep)
        for saying in (deep, with_meant_marks(50, [X, Y, neg(Z)]), ("times", X, Y)):
            for kinds in (("sum",) * 6, ("step", "product")):
                chosen = (("in", 1, HALF), ("in", 0, THIRD), TOP)
                told = told_grade(chain_worth(saying, kinds, ("x", "y", "z"), [plain_grade(g) for g in chosen]))
                self.assertEqual(grades.chain_value(saying, kinds, ("x", "y", "z"), chosen), told)

    def test_errors_in_their_order(self):
        value = grades.chain_value
        wrong = ("in", 1, HALF)
        for bad in plus_in_each_place():
            check_raises(self, errors.WrongMark, {"mark": "plus"}, value, bad, ("sum",), (), ())
            check_raises(self, errors.WrongMark, {"mark": "plus"}, value, ("and", W, bad), ("sum",), ("x",), (wrong,))
        check_raises(self, errors.UnknownName, {"name": "y"}, value, ("and", Y, Z), ("sum",), ("x",), (wrong,))
        check_raises(self, errors.UnknownName, {"name": "x"}, value, X, ("sum",), (), ())
        check_raises(self, errors.OutOfRange, {"value": wrong}, value, X, ("sum",), ("x",), (wrong,))
        far = ("in", 6, ZERO)
        check_raises(self, errors.OutOfRange, {"value": far}, value, X, ("sum",) * 6, ("x", "y", "z"), (TOP, far, wrong))
        check_raises(self, errors.OutOfRange, {"value": far}, value, YES, ("sum",) * 2, ("x", "y"), (wrong, far))
        self.assertEqual(value(X, ("sum",) * 6, ("x",), (("in", 5, HALF),)), ("in", 5, HALF))
