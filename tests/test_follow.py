import random
import unittest
from math import ceil

from halftruths import errors, follow
from halftruths.sayings import used_times
from halftruths.validity import is_valid
from tests.helpers import (HALF, NO, ONE, W, X, Y, YES, Z, ZERO, chained, check_bounded_pair, check_plain, check_raises,
                           fractions_of, greater, grid, names_of, neg, random_saying, with_marks, worth)
from tests.webs import KEPT_AND_PASSED, TWO_WITH_17, corners_anew

SQUARE = ("times", X, X)


def goal_of(uses):
    def goal(forms):
        a, b = forms
        return tuple((uses - 1 if k == 0 else 0) - uses * p + q for k, (p, q) in enumerate(zip(a, b)))
    return goal


def shortfalls(first, second, place):
    names = names_of(first, second)
    return 1 - worth(first, names, place), 1 - worth(second, names, place)


def uses_anew(first, second):
    uses = 0
    for point in corners_anew((first, second)):
        left, right = shortfalls(first, second, fractions_of(point))
        if left == 0:
            if right > 0:
                return None
        else:
            uses = max(uses, ceil(right / left))
    return uses


class Uses(unittest.TestCase):
    def test_by_hand(self):
        for first, second, uses in (
                (X, SQUARE, 2), (X, X, 1), (X, YES, 0), (YES, YES, 0), (NO, NO, 1), (NO, X, 1), (YES, X, None),
                (YES, NO, None), (X, Y, None), (("and", X, Y), ("times", X, Y), 2), (("times", X, Y), ("and", X, Y), 1),
                (X, chained("times", [X] * 7), 7), (NO, YES, 0), (("and", X, neg(X)), NO, 2),
                (("or", X, neg(X)), X, None), (("and", X, ("leads", X, Y)), Y, 2), (X, ("leads", Y, X), 1),
                (("times", X, ("times", Y, Z)), Z, 1), (X, ("leads", Y, Y), 0)):
            self.assertEqual(follow.least_uses(first, second), uses, (first, second))

    def test_at_random(self):
        source = random.Random(27)
        seen = set()
        for _ in range(150):
            names = ["x", "y", "z"][:source.randrange(1, 4)]
            marks = source.randrange([0, 7, 5, 3][len(names)])
            part = source.randrange(marks + 1)
            first = random_saying(source, part, names)
            second = random_saying(source, marks - part, names)
            uses = follow.least_uses(first, second)
            self.assertEqual(uses, uses_anew(first, second))
            seen.add(uses)
            if uses is None:
                continue
            self.assertIs(uses == 0, is_valid(second))
            for place in grid(len(names_of(first, second)), 6):
                left, right = shortfalls(first, second, place)
                self.assertLessEqual(right, uses * left)
            # That uses are enough, and fewer are not, is what (A used n times) leads B says.
            if uses * (part + 1) + marks - part <= 7:
                self.assertIs(is_valid(("leads", used_times(first, uses), second)), True)
                if uses:
                    self.assertIs(is_valid(("leads", used_times(first, uses - 1), second)), False)
        self.assertTrue({None, 0, 1, 2} <= seen)

    def test_first_against(self):
        self.assertIsNone(follow.first_against(X, SQUARE))
        self.assertEqual(follow.first_against(YES, NO), ())
        self.assertEqual(follow.first_against(YES, X), (ZERO,))
        self.assertEqual(follow.first_against(X, Y), (ONE, ZERO))
        self.assertEqual(follow.first_against(("plus", X, X), X), (HALF,))
        source = random.Random(28)
        for _ in range(100):
            first = random_saying(source, 2, ["x", "y"])
            second = random_saying(source, 2, ["x", "y"])
            against = [point for point in corners_anew((first, second))
                       if shortfalls(first, second, fractions_of(point))[0] == 0
                       and shortfalls(first, second, fractions_of(point))[1] > 0]
            self.assertEqual(follow.first_against(first, second), against[0] if against else None)
            self.assertIs(follow.least_uses(first, second) is None, bool(against))


class Certificates(unittest.TestCase):
    def check(self, first, second):
        names = names_of(first, second)
        told = follow.follow_certificate(first, second)
        self.assertIs(follow.is_follow_certificate(first, second, told), True)
        uses = uses_anew(first, second)
        if uses is None:
            self.assertEqual((told[0], len(told)), ("against", 2))
            left, right = shortfalls(first, second, fractions_of(told[1]))
            self.assertEqual(left, 0)
            self.assertGreater(right, 0)
            return told
        self.assertEqual((told[:2], len(told)), (("follows", uses), 4))
        check_plain((first, second), names, told[2], goal_of(uses))
        if uses == 0:
            self.assertIsNone(told[3])
        else:
            left, right = shortfalls(first, second, fractions_of(told[3]))
            self.assertGreater(right, (uses - 1) * left)
        return told

    def test_by_hand(self):
        for first, second in ((X, SQUARE), (YES, NO), (NO, NO), (X, YES), (X, Y), (("and", X, Y), ("times", X, Y)),
                              (("and", X, ("leads", X, Y)), Y), (X, chained("times", [X] * 12)), (YES, YES)):
            self.check(first, second)

    def test_at_random(self):
        source = random.Random(29)
        follows = 0
        for _ in range(120):
            names = ["x", "y", "z"][:source.randrange(4)]
            marks = source.randrange([8, 8, 5, 3][len(names)])
            part = source.randrange(marks + 1)
            told = self.check(random_saying(source, part, names), random_saying(source, marks - part, names))
            follows += told[0] == "follows"
        self.assertGreater(follows, 30)

    def test_greater_multiples(self):
        for first, second in ((X, SQUARE), (("and", X, Y), ("times", X, Y)), (X, YES)):
            told = follow.follow_certificate(first, second)
            for factor in (2, 10 ** 30):
                value = told[:2] + (greater(told[2], factor), told[3])
                self.assertIs(follow.is_follow_certificate(first, second, value), True)

    def test_not_plain(self):
        rows = (("split",), ("sum", 1, (0, 0, 0)), ("sum", 4, (0, 0, 0)))
        first = ("and", X, X)
        self.assertIs(follow.is_follow_certificate(first, X, ("follows", 1, rows, (ZERO,))), True)
        self.assertIs(follow.is_follow_certificate(first, X, ("follows", 1, rows, (HALF,))), True)
        self.assertIs(follow.is_follow_certificate(first, X, ("follows", 1, rows, (ONE,))), False)
        empty = ("leads", NO, YES)
        rows = (("split",), ("empty", (1,)), ("sum", 1, (0,)))
        self.assertIs(follow.is_follow_certificate(empty, empty, ("follows", 0, rows, None)), False)
        rows = (("is", "most", 1, (1 - 1,)), ("sum", 1, (0,)))
        self.assertIs(follow.is_follow_certificate(YES, empty, ("follows", 0, rows, None)), False)
        rows = (("is", "most", 1, ()), ("sum", 1, ()))
        self.assertIs(follow.is_follow_certificate(YES, empty, ("follows", 0, rows, None)), True)
        rows = (("split",), ("empty", (1,)), ("sum", 9, (0,)))
        self.assertIs(follow.is_follow_certificate(NO, empty, ("follows", 0, rows, None)), True)

    def test_any_point_against(self):
        for point in ((ONE, ZERO), (ONE, HALF)):
            self.assertIs(follow.is_follow_certificate(X, Y, ("against", point)), True)
        for point in ((ONE, ONE), (HALF, ZERO), (ONE,), (), None, 1, ((1, 1), (False, 1)), ((2, 2), ZERO),
                      (ONE, ZERO, ZERO), (ONE, (0, 2)), ((True, 1), ZERO), "11"):
            self.assertIs(follow.is_follow_certificate(X, Y, ("against", point)), False, point)
        self.assertIs(follow.is_follow_certificate(YES, NO, ("against", ())), True)

    def test_wrong_at_one_place(self):
        for first, second in ((X, SQUARE), (("and", X, Y), ("times", X, Y)), (X, YES), (NO, X), (YES, ("or", X, YES))):
            told = follow.follow_certificate(first, second)
            uses, rows, point = told[1:]
            wrong = [told[:-1], told + (None,), told[1:], ("follow",) + told[1:], ("against",) + told[1:],
                     ("against", point), ("follows", rows), (), None, True, 1, "follows", ("follows",), rows]
            for other in (uses + 1, uses - 1, -1, True, False, None, "1", 10 ** 40):
                wrong.append(("follows", other, rows, point))
            for other in (rows[:-1], rows + (rows[-1],), rows[1:], (), None, rows[0], 1, (rows,), rows + ((),)):
                wrong.append(("follows", uses, other, point))
            for other in (None, 1, (), (ONE,) * 4, (HALF, (2, 2)), "", ((True, True),), point and point + (ONE,)):
                if other != point:
                    wrong.append(("follows", uses, rows, other))
            if uses == 0:
                wrong.append(("follows", 0, rows, (ZERO,)))
                wrong.append(("follows", False, rows, None))
            if uses == 1:
                wrong.append(("follows", True, rows, point))
            for value in wrong:
                self.assertIs(follow.is_follow_certificate(first, second, value), False, value)
            for k, row in enumerate(rows):
                if row != ("split",):
                    for number in (0, True, -1, "1"):
                        other = rows[:k] + (row[:-2] + (number, row[-1]),) + rows[k + 1:]
                        value = ("follows", uses, other, point)
                        self.assertIs(follow.is_follow_certificate(first, second, value), False, value)

    def test_more_uses_are_not_the_least_ones(self):
        for uses in (1, 3, 4):
            rows = follow.follow_certificate(X, SQUARE)[2]
            for point in ((ZERO,), (HALF,), (ONE,), ((2, 3),)):
                self.assertIs(follow.is_follow_certificate(X, SQUARE, ("follows", uses, rows, point)), False)

    def test_fewer_uses_with_rows_that_leave_a_number_below_0(self):
        # With one use the goal is b - a: x - 1 where x >= 1/2, and -x where x <= 1/2.
        rows = (("split",), ("sum", 1, (0, 1, 0)), ("sum", 1, (0, 0, 1)))
        for point in ((HALF,), ((2, 3),)):
            self.assertIs(follow.is_follow_certificate(X, SQUARE, ("follows", 1, rows, point)), False)
        # With two uses it is 0 there, and 1 - 2 x.
        rows = (("split",), ("sum", 1, (0, 0, 0)), ("sum", 1, (1, 0, 0)))
        self.assertIs(follow.is_follow_certificate(X, SQUARE, ("follows", 2, rows, (HALF,))), True)
        # Without uses it is b - 1.
        rows = (("sum", 1, (1, 0)),)
        self.assertIs(follow.is_follow_certificate(YES, X, ("follows", 0, rows, None)), False)

    def test_against_what_follows(self):
        for point in ((ZERO,), (HALF,), (ONE,)):
            self.assertIs(follow.is_follow_certificate(X, SQUARE, ("against", point)), False)


class Bounds(unittest.TestCase):
    def functions(self):
        return (follow.least_uses, follow.first_against, follow.follow_certificate,
                lambda first, second: follow.is_follow_certificate(first, second, None),
                lambda first, second: follow.is_follow_certificate(first, second, ("against", (ONE,))))

    def test_bounded(self):
        for function in self.functions():
            check_bounded_pair(self, errors, function)

    def test_questions(self):
        for kept, _, passed in KEPT_AND_PASSED:
            for function in self.functions():
                function(kept, YES)
                for first, second in ((passed, YES), (NO, passed)):
                    check_raises(self, errors.TooMany, {"what": "questions"}, function, first, second)
                check_raises(self, errors.TooMany, {"what": "marks"}, function, passed, passed)
                check_raises(self, errors.TooMany, {"what": "unknowns"}, function, passed, with_marks(3, [X, Y, Z, W]))

    def test_the_web_of_both_counts(self):
        first, second = TWO_WITH_17
        for function in self.functions():
            function(first, X)
            function(second, X)
            check_raises(self, errors.TooMany, {"what": "questions"}, function, first, second)
