import random
import unittest
from fractions import Fraction

from halftruths import errors, shares
from halftruths.likeness import are_alike
from halftruths.means import mean_of
from halftruths.validity import is_valid
from halftruths.values import is_value
from tests.helpers import (HALF, NO, ONE, X, Y, YES, Z, ZERO, check_bounded, check_raises, names_of, neg,
                           random_saying, with_marks, worth)
from tests.measures import (KEPT_AND_PASSED, common_denominator, grid_total, inner_integral, leading, share_in_plane,
                            share_on_line, told, worth_function)
from tests.test_means import few_questions
from tests.webs import corners_anew

NAMES = ("x", "y", "z")


class Share(unittest.TestCase):
    def test_by_hand(self):
        for saying, value, share in (
                (X, HALF, HALF), (X, ONE, ZERO), (X, ZERO, ONE), (X, (1, 3), (2, 3)), (YES, ONE, ONE), (YES, HALF, ONE),
                (NO, ZERO, ONE), (NO, (1, 100), ZERO), (("and", X, Y), HALF, (1, 4)), (("or", X, Y), HALF, (3, 4)),
                (("plus", X, Y), ONE, HALF), (("times", X, Y), HALF, (1, 8)), (("times", X, Y), (1, 10 ** 9), None),
                (("and", ("and", X, Y), Z), HALF, (1, 8)), (("times", ("times", X, Y), Z), HALF, (1, 48)),
                (("leads", X, Y), ONE, HALF), (("same", X, Y), HALF, (3, 4)), (("plus", X, neg(X)), ONE, ONE),
                (("or", X, neg(X)), HALF, ONE), (("or", X, neg(X)), (3, 4), HALF), (("or", X, neg(X)), ONE, ZERO)):
            found = shares.share_from(saying, value)
            self.assertTrue(is_value(found))
            if share is not None:
                self.assertEqual(found, share, (saying, value))
        for saying, share in ((X, ZERO), (YES, ONE), (NO, ZERO), (("plus", X, Y), HALF), (("plus", X, X), HALF),
                              (("leads", X, X), ONE), (("same", X, Y), ZERO), (("or", X, neg(X)), ZERO)):
            self.assertEqual(shares.yes_share(saying), share)

    def test_of_lines_and_planes(self):
        source = random.Random(311)
        for _ in range(60):
            saying = random_saying(source, source.randint(1, 8), ("x",))
            values = [ZERO, ONE, told(Fraction(source.randrange(14), 13))] + list(shares.levels_of(saying))
            if names_of(saying):
                for value in values:
                    self.assertEqual(shares.share_from(saying, value), told(share_on_line(saying, value)))
            saying = random_saying(source, source.randint(1, 7), ("x", "y"))
            if len(names_of(saying)) == 2 and few_questions(saying):
                values = [ZERO, ONE, told(Fraction(source.randrange(14), 13))]
                values += source.sample(shares.levels_of(saying), 1)
                for value in values:
                    self.assertEqual(shares.share_from(saying, value), told(share_in_plane(saying, value)), saying)
                self.assertEqual(shares.yes_share(saying), told(share_in_plane(saying, ONE)))

    def test_mean_from_shares(self):
        # Between neighbouring levels the share is a polynomial of degree at most 3; its integral is the mean.
        source = random.Random(312)
        done = 0
        for count, marks, tries in ((0, 4, 5), (1, 8, 20), (2, 6, 20), (3, 5, 25)):
            for _ in range(tries):
                saying = random_saying(source, marks, NAMES[:count])
                if len(names_of(saying)) != count or not few_questions(saying):
                    continue
                levels = [Fraction(*value) for value in shares.levels_of(saying)]
                if len(levels) > 16:
                    continue
                total = levels[0] + sum(inner_integral(lambda v: Fraction(*shares.share_from(saying, told(v))), low, high)
                                        for low, high in zip(levels, levels[1:]))
                self.assertEqual(told(total), mean_of(saying))
                done += 1
        self.assertGreater(done, 30)

    def test_facts(self):
        source = random.Random(313)
        for count in (1, 2, 3):
            for _ in range(25):
                saying = random_saying(source, 4, NAMES[:count])
                if few_questions(saying):
                    self.assertEqual(shares.share_from(saying, ZERO), ONE)
                    self.assertEqual(shares.yes_share(saying), shares.share_from(saying, ONE))
                    self.assertIs(shares.yes_share(saying) == ONE, is_valid(saying))
                    self.assertEqual(shares.share_from(saying, shares.levels_of(saying)[0]), ONE)
                    found = [Fraction(*shares.share_from(saying, told(Fraction(k, 7)))) for k in range(8)]
                    self.assertEqual(found, sorted(found, reverse=True))

    def test_alike_sayings(self):
        pairs = ((("plus", X, Y), ("leads", neg(X), Y)), (("and", X, Y), ("times", X, ("leads", X, Y))),
                 (("or", X, Y), ("leads", ("leads", X, Y), Y)), (X, neg(neg(X))))
        for first, second in pairs:
            self.assertTrue(are_alike(first, second))
            for k in range(12):
                value = told(Fraction(k, 11))
                self.assertEqual(shares.share_from(first, value), shares.share_from(second, value))
            self.assertEqual(mean_of(first), mean_of(second))

    def test_bounds(self):
        for function in (lambda saying: shares.share_from(saying, HALF), shares.yes_share, shares.levels_of):
            check_bounded(self, errors, function)
            for kept, _, passed in KEPT_AND_PASSED:
                function(kept)
                check_raises(self, errors.TooMany, {"what": "questions"}, function, passed)


class Levels(unittest.TestCase):
    def test_by_hand(self):
        for saying, levels in ((X, (ZERO, ONE)), (YES, (ONE,)), (NO, (ZERO,)), (("or", X, neg(X)), (HALF, ONE)),
                               (("and", X, Y), (ZERO, ONE)), (("plus", X, neg(X)), (ONE,)),
                               (("same", ("plus", X, X), neg(X)), (ZERO, HALF, ONE))):
            self.assertEqual(shares.levels_of(saying), levels, saying)

    def test_values_at_corners(self):
        source = random.Random(314)
        for count, marks in ((0, 3), (1, 8), (2, 6), (3, 5)):
            for _ in range(15):
                saying = random_saying(source, marks, NAMES[:count])
                if few_questions(saying):
                    names = names_of(saying)
                    worths = {worth(saying, names, [Fraction(*value) for value in point])
                              for point in corners_anew((saying,))}
                    self.assertEqual(shares.levels_of(saying), tuple(told(number) for number in sorted(worths)))


class Grids(unittest.TestCase):
    def test_by_hand(self):
        for saying, parts, total in ((YES, 1, ONE), (YES, 5, ONE), (NO, 9, (0, 1)), (X, 1, ONE), (X, 2, (3, 2)),
                                     (X, 10, (11, 2)), (("and", X, Y), 1, ONE), (("and", X, Y), 2, (5, 2)),
                                     (("or", X, neg(X)), 3, (10, 3)), (("plus", X, Y), 1, (3, 1))):
            self.assertEqual(shares.grid_sum(saying, parts), total, (saying, parts))

    def test_at_random(self):
        source = random.Random(315)
        for count, most in ((0, 99), (1, 40), (2, 9), (3, 5), (4, 2), (5, 1)):
            for _ in range(10):
                saying = random_saying(source, 6, ("a", "b", "c", "d", "e")[:count])
                parts = source.randint(1, most)
                names = names_of(saying)
                total = grid_total(worth_function(saying), len(names), parts)
                self.assertEqual(shares.grid_sum(saying, parts), told(total))

    def test_polynomial(self):
        # The grid sums for multiples of a common denominator of all corners are values of one polynomial.
        source = random.Random(316)
        done = 0
        for count, most, tries in ((1, 20, 30), (2, 10, 30), (3, 2, 12)):
            for _ in range(tries):
                saying = random_saying(source, 4, NAMES[:count])
                parts = common_denominator((saying,))
                if len(names_of(saying)) != count or parts > most or not few_questions(saying):
                    continue
                sums = []
                while len(sums) < count + 3 and (parts * (len(sums) + 1) + 1) ** count <= 3000:
                    sums.append(Fraction(*shares.grid_sum(saying, parts * (len(sums) + 1))))
                if len(sums) >= count + 1:
                    coefficient = leading(sums[:count + 1])
                    self.assertEqual(told(coefficient / parts ** count), mean_of(saying))
                    done += 1
                if len(sums) >= count + 2:
                    self.assertEqual(leading(sums[:count + 2]), 0)
        self.assertGreater(done, 25)

    def test_bounds(self):
        for parts in (0, -1, -10 ** 30):
            for saying in (YES, X, with_marks(20, [X, Y, Z])):
                check_raises(self, errors.OutOfRange, {"value": parts}, shares.grid_sum, saying, parts)
        many = {"what": "points"}
        for saying, kept in ((X, 2999), (("and", X, Y), 53), (("and", Z, ("or", X, Y)), 13)):
            shares.grid_sum(saying, kept)
            check_raises(self, errors.TooMany, many, shares.grid_sum, saying, kept + 1)
            check_raises(self, errors.TooMany, many, shares.grid_sum, saying, 10 ** 40)
        names = ["a" + str(k) for k in range(12)]
        wide = with_marks(10, [("unknown", name) for name in names[:11]])
        self.assertEqual(shares.grid_sum(wide, 1), told(grid_total(worth_function(wide), 11, 1)))
        check_raises(self, errors.TooMany, many, shares.grid_sum, with_marks(11, [("unknown", n) for n in names]), 1)
        self.assertEqual(shares.grid_sum(YES, 10 ** 40), ONE)
        # It is not bounded by marks.
        self.assertEqual(shares.grid_sum(with_marks(400, [X]), 2), (3, 2))
