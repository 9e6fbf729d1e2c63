import random
import unittest
from fractions import Fraction
from math import lcm

from halftruths import errors, partings
from halftruths.likeness import are_alike
from tests.helpers import (HALF, NO, W, X, Y, YES, Z, chained, check_bounded_pair, check_raises, grid, names_of, neg,
                           nots, point_of, random_saying, with_marks, words_of, worth)


def times_in(saying, name):
    return sum(word == ("unknown", name) for word in words_of(saying))


def bound_anew(first, second):
    names = names_of(first, second)
    bound = [1, 1, 2, 4][len(names)]
    for name in names:
        bound *= max(1, times_in(first, name), times_in(second, name))
    return bound


def least_anew(first, second):
    names = names_of(first, second)
    for parts in range(1, bound_anew(first, second) + 1):
        apart = [place for place in grid(len(names), parts)
                 if lcm(1, *[number.denominator for number in place]) == parts
                 and worth(first, names, place) != worth(second, names, place)]
        if apart:
            return parts, point_of(min(apart))
    return None


class Bound(unittest.TestCase):
    def test_by_hand(self):
        for first, second, bound in (
                (YES, NO, 1), (X, X, 1), (X, NO, 1), (("plus", X, X), chained("plus", [X] * 3), 3),
                (("plus", X, Y), ("or", X, Y), 2), (("and", X, X), ("and", Y, X), 4), (X, Y, 2),
                (chained("or", [X, X, Y]), chained("or", [Y, Y, Y, Z]), 4 * 2 * 3), (X, ("or", Y, Z), 4),
                (chained("or", [X] * 13), NO, 13), (chained("or", [X, Y] * 5), NO, 50)):
            self.assertEqual(partings.denominator_bound(first, second), bound)
            self.assertEqual(partings.denominator_bound(second, first), bound)

    def test_at_random(self):
        source = random.Random(12)
        for _ in range(100):
            first = random_saying(source, 3, ["x", "y", "z"])
            second = random_saying(source, 4, ["x", "y", "z"])
            self.assertEqual(partings.denominator_bound(first, second), bound_anew(first, second))

    def test_bounds(self):
        check_bounded_pair(self, errors, partings.denominator_bound)


class LeastParting(unittest.TestCase):
    def test_examples(self):
        self.assertEqual(partings.least_parting(("plus", X, X), chained("plus", [X] * 3)), (3, ((1, 3),)))
        self.assertEqual(partings.least_parting(("plus", X, Y), ("or", X, Y)), (2, (HALF, HALF)))
        self.assertEqual(partings.least_parting(YES, NO), (1, ()))
        self.assertIsNone(partings.least_parting(YES, neg(NO)))

    def test_by_hand(self):
        self.assertEqual(partings.least_parting(X, NO), (1, ((1, 1),)))
        self.assertEqual(partings.least_parting(X, Y), (1, ((0, 1), (1, 1))))
        self.assertEqual(partings.least_parting(("and", Y, X), Y), (1, ((1, 1), (0, 1))))
        self.assertEqual(partings.least_parting(("or", X, neg(X)), YES), (2, (HALF,)))
        self.assertEqual(partings.least_parting(chained("times", [X] * 12), chained("times", [X])), (2, (HALF,)))
        six = [X] * 6
        # (x used 6 times) and (x used 7 times) part first at 6/7.
        self.assertEqual(partings.least_parting(chained("times", six), chained("times", six + [X])), (7, ((6, 7),)))

    def test_at_random(self):
        source = random.Random(13)
        seen = set()
        for _ in range(300):
            names = ["x", "y", "z"][:source.randrange(1, 4)]
            marks = source.randrange([0, 12, 7, 5][len(names)] + 1)
            part = source.randrange(marks + 1)
            first = random_saying(source, part, names)
            second = random_saying(source, marks - part, names)
            told = partings.least_parting(first, second)
            if told is None:
                self.assertIs(are_alike(first, second), True)
            else:
                self.assertEqual(told, least_anew(first, second), (first, second))
                seen.add(told[0])
        self.assertTrue({1, 2, 3} <= seen)

    def test_the_first_point(self):
        first, second = ("plus", X, ("plus", Y, Z)), ("or", X, ("or", Y, Z))
        self.assertEqual(partings.least_parting(first, second), (2, ((0, 1), HALF, HALF)))
        self.assertEqual(partings.least_parting(second, first), (2, ((0, 1), HALF, HALF)))

    def test_sayings_with_many_words(self):
        first = ("same", ("and", nots(X, 50), nots(Y, 50)), nots(Z, 57))
        second = ("same", ("and", X, Y), Z)
        self.assertEqual(partings.least_parting(first, second), least_anew(neg(second), second))
        self.assertIsNone(partings.least_parting(("and", nots(X, 58), nots(Y, 2)), ("and", X, nots(Y, 58))))

    def test_bounds(self):
        for leaves, most in (([YES, NO], 12), ([X], 12), ([X, Y], 9)):
            partings.least_parting(with_marks(most, leaves), NO)
            for first in (0, 5, most + 1):
                check_raises(self, errors.TooMany, {"what": "marks"}, partings.least_parting,
                             with_marks(first, leaves), with_marks(most + 1 - first, leaves[::-1]))
        check_raises(self, errors.TooMany, {"what": "unknowns"}, partings.least_parting, with_marks(3, [X, Y]),
                     with_marks(1, [Z, W]))

    def test_bound_of_three_unknowns(self):
        leaves = [X, Y, Z]
        self.assertEqual(partings.least_parting(with_marks(5, leaves), NO), (1, ((1, 1),) * 3))
        self.assertEqual(partings.least_parting(with_marks(3, leaves), neg(with_marks(2, leaves))),
                         (1, ((0, 1),) * 3))
        self.assertIsNone(partings.least_parting(with_marks(3, leaves), with_marks(2, leaves)))
        for first, second in ((with_marks(6, leaves), NO), (with_marks(3, leaves), with_marks(3, leaves)),
                              (X, with_marks(6, leaves)), (with_marks(8, leaves), X)):
            check_raises(self, errors.TooMany, {"what": "marks"}, partings.least_parting, first, second)
        # With 2 unknowns 6 marks are not too many.
        self.assertIsNone(partings.least_parting(with_marks(3, [X, Y]), with_marks(3, [Y, X])))

    def test_never_above_the_bound(self):
        source = random.Random(14)
        for _ in range(200):
            first = random_saying(source, 6, ["x", "y"])
            second = random_saying(source, 3, ["x", "y"])
            told = partings.least_parting(first, second)
            if told is not None:
                self.assertLessEqual(told[0], partings.denominator_bound(first, second))
                names = names_of(first, second)
                place = [Fraction(*value) for value in told[1]]
                self.assertNotEqual(worth(first, names, place), worth(second, names, place))
