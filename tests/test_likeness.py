import random
import unittest

from halftruths import errors, likeness
from halftruths.values import is_point
from tests.helpers import (HALF, NO, ONE, W, X, Y, YES, Z, ZERO, check_bounded_pair, check_plain, check_raises, greater,
                           grid, less_one, names_of, neg, nots, random_saying, with_marks, worth, worth_at)

ALIKE = [
    (YES, YES), (YES, neg(NO)), (X, neg(neg(X))), (("plus", X, Y), ("leads", neg(X), Y)),
    (("or", X, Y), ("leads", ("leads", X, Y), Y)), (("and", X, Y), neg(("or", neg(X), neg(Y)))),
    (("same", X, Y), ("and", ("leads", X, Y), ("leads", Y, X))), (("plus", X, YES), ("leads", Y, Y)),
    (("times", X, ("plus", Y, Z)), ("times", ("plus", Z, Y), X)),
]
NOT_ALIKE = [
    (YES, NO), (X, Y), (X, neg(X)), (("plus", X, X), ("plus", ("plus", X, X), X)), (("plus", X, Y), ("or", X, Y)),
    (("and", X, Y), ("times", X, Y)), (X, ("times", X, X)), (Z, NO), (("or", X, neg(X)), YES),
]


class Alike(unittest.TestCase):
    def test_by_hand(self):
        for first, second in ALIKE:
            for one, other in ((first, second), (second, first)):
                self.assertIs(likeness.are_alike(one, other), True)
                self.assertIsNone(likeness.parting(one, other))
                rows = likeness.likeness(one, other)
                check_plain((("same", one, other),), names_of(one, other), rows, less_one)
                self.assertIs(likeness.is_likeness(one, other, rows), True)

    def test_not_alike(self):
        for first, second in NOT_ALIKE:
            for one, other in ((first, second), (second, first)):
                self.assertIs(likeness.are_alike(one, other), False)
                self.assertIsNone(likeness.likeness(one, other))
                self.check_parting(one, other, likeness.parting(one, other))
                self.assertIs(likeness.is_likeness(one, other, ()), False)

    def check_parting(self, first, second, point):
        names = names_of(first, second)
        self.assertTrue(is_point(point, len(names)))
        self.assertNotEqual(worth_at(first, names, point), worth_at(second, names, point))
        self.assertIs(likeness.is_parting(first, second, point), True)

    def test_at_random(self):
        source = random.Random(11)
        alike = 0
        for _ in range(250):
            names = ["x", "y", "z"][:source.randrange(4)]
            marks = source.randrange([12, 12, 9, 7][len(names)] + 1)
            part = source.randrange(marks + 1)
            first = random_saying(source, part, names)
            second = random_saying(source, marks - part, names)
            used = names_of(first, second)
            rows = likeness.likeness(first, second)
            self.assertIs(likeness.are_alike(first, second), rows is not None)
            if rows is None:
                self.check_parting(first, second, likeness.parting(first, second))
            else:
                alike += 1
                check_plain((("same", first, second),), used, rows, less_one)
                self.assertIs(likeness.is_likeness(first, second, rows), True)
                for place in grid(len(used), 6):
                    self.assertEqual(worth(first, used, place), worth(second, used, place))
        self.assertGreater(alike, 15)

    def test_the_marks_that_are_put_there_do_not_count(self):
        first, second = with_marks(6, [X]), with_marks(6, [X, X])
        self.assertIs(likeness.are_alike(first, second), True)
        self.assertIs(likeness.is_likeness(first, second, likeness.likeness(first, second)), True)

    def test_bounds(self):
        for function in (likeness.are_alike, likeness.likeness, likeness.parting,
                         lambda first, second: likeness.is_likeness(first, second, "no rows")):
            check_bounded_pair(self, errors, function)

    def test_great_sayings(self):
        # (A same B) is deeper than a saying may be.
        first, second = nots(X, 60), nots(X, 58)
        self.assertIs(likeness.are_alike(first, second), True)
        rows = likeness.likeness(first, second)
        self.assertIs(likeness.is_likeness(first, second, rows), True)
        self.assertIs(likeness.are_alike(nots(X, 60), nots(X, 59)), False)


class IsLikeness(unittest.TestCase):
    def test_order_of_the_sayings(self):
        first, second = ("or", X, Y), ("leads", ("leads", X, Y), Y)
        rows = likeness.likeness(first, second)
        self.assertIs(likeness.is_likeness(first, second, rows), True)
        self.assertIs(likeness.is_likeness(first, ("or", X, X), rows), False)

    def test_wrong_rows(self):
        for first, second in ALIKE:
            rows = likeness.likeness(first, second)
            for k, row in enumerate(rows):
                self.assertIs(likeness.is_likeness(first, second, rows[:k] + rows[k + 1:]), False)
                self.assertIs(likeness.is_likeness(first, second, rows[:k] + (row,) + rows[k:]), False)
                if row != ("split",):
                    for number in (True, 0, -1, "1", None):
                        wrong = row[:-2] + (number, row[-1])
                        self.assertIs(likeness.is_likeness(first, second, rows[:k] + (wrong,) + rows[k + 1:]), False)
            for value in ((), None, True, 1, "", rows[::-1] + ((),), (rows,)):
                self.assertIs(likeness.is_likeness(first, second, value), False)

    def test_greater_multiples(self):
        for first, second in ALIKE:
            rows = likeness.likeness(first, second)
            for factor in (3, 10 ** 30):
                self.assertIs(likeness.is_likeness(first, second, greater(rows, factor)), True)

    def test_an_empty_branch(self):
        # The question of (no leads yes) is -1, so the side `least` is empty.
        rows = (("split",), ("empty", (1,)), ("is", "least", 1, (0,)), ("sum", 1, (0,)))
        self.assertIs(likeness.is_likeness(("leads", NO, YES), YES, rows), True)
        self.assertIs(likeness.is_likeness(("leads", NO, YES), NO, rows), False)

    def test_not_plain(self):
        rows = (("split",), ("sum", 1, (0, 0, 0)), ("sum", 2, (0, 0, 0)))
        self.assertIs(likeness.is_likeness(X, X, rows), True)
        self.assertIs(likeness.is_likeness(X, neg(X), rows), False)


class IsParting(unittest.TestCase):
    def test_points(self):
        self.assertIs(likeness.is_parting(X, Y, (HALF, ONE)), True)
        self.assertIs(likeness.is_parting(X, Y, (HALF, HALF)), False)
        self.assertIs(likeness.is_parting(YES, NO, ()), True)
        self.assertIs(likeness.is_parting(YES, neg(NO), ()), False)
        self.assertIs(likeness.is_parting(X, neg(X), (HALF,)), False)
        self.assertIs(likeness.is_parting(X, neg(X), (ZERO,)), True)

    def test_order_of_the_unknowns(self):
        first, second = ("and", Y, X), Y
        self.assertIs(likeness.is_parting(first, second, (ONE, ZERO)), True)
        self.assertIs(likeness.is_parting(first, second, (ZERO, ONE)), False)

    def test_no_points(self):
        for value in ((), (HALF,), (HALF, ONE, ONE), HALF, ((2, 4), ONE), ((1, 1, 1), ONE), ((3, 2), ONE), None, 0,
                      True, "", ((True, 1), ZERO), ((1, True), ZERO), ((0, 2), ONE), (None, ONE), ((1,), ONE),
                      ((-1, 2), ONE), ((1, 0), ONE), (ONE, "x"), [HALF, ONE]):
            self.assertIs(likeness.is_parting(X, Y, value), False, value)

    def test_not_bounded(self):
        leaves = [X, Y, Z, W]
        first, second = with_marks(100, leaves[:1]), with_marks(59, leaves)
        self.assertIs(likeness.is_parting(with_marks(40, leaves), neg(second), (ONE,) * 4), True)
        self.assertIs(likeness.is_parting(with_marks(40, leaves), second, (ONE, HALF, ONE, ONE)), False)
        self.assertIs(likeness.is_parting(first, second, (ONE, HALF, ONE, ONE)), True)
        check_raises(self, errors.TooMany, {"what": "unknowns"}, likeness.parting, with_marks(3, leaves), X)
