import random
import unittest
from fractions import Fraction

from halftruths import errors, means
from halftruths.likeness import are_alike
from halftruths.meshes import Mesh
from halftruths.validity import is_valid
from halftruths.values import is_value
from tests.helpers import (HALF, NO, ONE, W, X, Y, YES, Z, ZERO, check_bounded, check_bounded_pair, check_raises,
                           names_of, neg, random_saying, with_marks, worth)
from tests.measures import (KEPT_AND_PASSED, TWO_WITH_21, TWO_WITH_9, WEB_OF_20, WEB_OF_8, common_denominator,
                            mean_by_grids, mean_of_forms, simpson, told, worth_function)
from tests.webs import corners_anew, web_anew

NAMES = ("x", "y", "z")
BY_HAND = ((X, (1, 2)), (YES, ONE), (NO, ZERO), (neg(X), HALF), (("and", X, Y), (1, 3)), (("times", X, Y), (1, 6)),
           (("times", ("times", X, Y), Z), (1, 24)), (("or", X, Y), (2, 3)), (("plus", X, Y), (5, 6)),
           (("leads", X, Y), (5, 6)), (("same", X, Y), (2, 3)), (("plus", X, X), (3, 4)), (("times", X, X), (1, 4)),
           (("or", X, neg(X)), (3, 4)), (("and", X, neg(X)), (1, 4)), (("plus", X, neg(X)), ONE),
           (("times", X, neg(X)), ZERO), (("and", ("and", X, Y), Z), (1, 4)), (("or", X, ("or", Y, Z)), (3, 4)),
           (("plus", X, NO), HALF), (("and", X, YES), HALF))


def few_questions(*sayings):
    most = {2: 20, 3: 8}.get(len(names_of(*sayings)), 100)
    return len(web_anew(sayings)) <= most


class Mean(unittest.TestCase):
    def check(self, saying):
        found = means.mean_of(saying)
        self.assertTrue(is_value(found))
        names = names_of(saying)
        mesh = Mesh(names)
        self.assertEqual(found, mesh.mean(mesh.settle(saying)))
        self.assertIs(found == ONE, is_valid(saying))
        self.assertEqual(means.mean_of(neg(saying)), (found[1] - found[0], found[1]))
        return Fraction(*found)

    def test_by_hand(self):
        for saying, mean in BY_HAND:
            self.assertEqual(means.mean_of(saying), mean, saying)
            self.check(saying)

    def test_by_grids(self):
        source = random.Random(301)
        done = 0
        for count, marks, most, tries in ((0, 6, 9, 10), (1, 7, 12, 40), (2, 5, 6, 40), (3, 3, 2, 12)):
            for _ in range(tries):
                saying = random_saying(source, source.randint(1, marks), NAMES[:count])
                if len(names_of(saying)) == count and common_denominator((saying,)) <= most and few_questions(saying):
                    mean = mean_by_grids(worth_function(saying), count, common_denominator((saying,)))
                    self.assertEqual(self.check(saying), mean, saying)
                    done += 1
        self.assertGreater(done, 50)

    def test_by_triangles(self):
        source = random.Random(302)
        for _ in range(40):
            saying = random_saying(source, source.randint(1, 9), NAMES[:2])
            if len(names_of(saying)) == 2 and few_questions(saying):
                self.assertEqual(told(mean_of_forms(saying)), means.mean_of(saying), saying)

    def test_great_ones(self):
        source = random.Random(303)
        for count, marks in ((1, 12), (2, 9), (3, 7)):
            for _ in range(15):
                saying = random_saying(source, marks, NAMES[:count])
                if few_questions(saying):
                    self.check(saying)
        self.check(WEB_OF_8)
        self.check(WEB_OF_20)

    def test_unknowns_that_do_not_occur(self):
        source = random.Random(304)
        for _ in range(20):
            saying = random_saying(source, 3, NAMES[:2])
            more = ("and", saying, ("or", Z, YES))
            if few_questions(saying) and few_questions(more):
                self.assertEqual(means.mean_of(saying), means.mean_of(more))

    def test_bounds(self):
        check_bounded(self, errors, lambda saying: means.mean_of(saying))
        for kept, _, passed in KEPT_AND_PASSED:
            means.mean_of(kept)
            check_raises(self, errors.TooMany, {"what": "questions"}, means.mean_of, passed)


class Bounds(unittest.TestCase):
    def test_webs_are_as_told(self):
        for kept, most, passed in KEPT_AND_PASSED:
            self.assertEqual(len(web_anew((kept,))), most)
            self.assertEqual(len(web_anew((passed,))), most + 1)
        for two, size in ((TWO_WITH_21, 21), (TWO_WITH_9, 9)):
            self.assertEqual(len(web_anew(two)), size)
            self.assertTrue(all(len(web_anew((saying,))) < size for saying in two))


class ProductMean(unittest.TestCase):
    def check(self, first, second):
        found = means.product_mean(first, second)
        self.assertTrue(is_value(found))
        self.assertEqual(found, means.product_mean(second, first))
        return Fraction(*found)

    def test_by_hand(self):
        for first, second, mean in ((X, X, (1, 3)), (X, Y, (1, 4)), (YES, X, HALF), (NO, X, ZERO), (YES, YES, ONE),
                                    (X, neg(X), (1, 6)), (("and", X, Y), ("and", X, Y), (1, 6)),
                                    (("and", X, Y), Z, (1, 6)), (("times", X, Y), X, (1, 8)), (YES, NO, ZERO)):
            self.assertEqual(means.product_mean(first, second), mean, (first, second))

    def test_by_grids(self):
        source = random.Random(305)
        done = 0
        for count, marks, most, tries in ((0, 3, 9, 5), (1, 5, 6, 40), (2, 3, 3, 50), (3, 1, 1, 12)):
            for _ in range(tries):
                two = [random_saying(source, source.randint(0, marks), NAMES[:count]) for _ in range(2)]
                names = names_of(*two)
                if len(names) != count or not few_questions(*two) or common_denominator(two) > most:
                    continue
                mean = mean_by_grids(lambda place: worth(two[0], names, place) * worth(two[1], names, place), count,
                                     common_denominator(two), 2)
                self.assertEqual(self.check(*two), mean, two)
                done += 1
        self.assertGreater(done, 40)

    def test_with_yes(self):
        source = random.Random(306)
        for count in (1, 2, 3):
            for _ in range(15):
                saying = random_saying(source, 3, NAMES[:count])
                if few_questions(saying):
                    self.assertEqual(means.product_mean(saying, YES), means.mean_of(saying))
                    square = self.check(saying, saying)
                    mean = Fraction(*means.mean_of(saying))
                    self.assertTrue(mean * mean <= square <= mean)

    def test_parts_add_up(self):
        # a b + a (1 - b) is a.
        source = random.Random(307)
        for count in (1, 2, 3):
            for _ in range(10):
                first, second = random_saying(source, 2, NAMES[:count]), random_saying(source, 2, NAMES[:count])
                if few_questions(first, second):
                    total = self.check(first, second) + self.check(first, neg(second))
                    self.assertEqual(told(total), means.mean_of(first))

    def test_bounds(self):
        check_bounded_pair(self, errors, means.product_mean)
        for two in (TWO_WITH_21, TWO_WITH_9):
            check_raises(self, errors.TooMany, {"what": "questions"}, means.product_mean, *two)
        means.product_mean(WEB_OF_8, X)
        check_raises(self, errors.TooMany, {"what": "questions"}, means.product_mean, KEPT_AND_PASSED[0][2], YES)


class Distance(unittest.TestCase):
    def test_by_hand(self):
        for first, second, mean in ((X, Y, (1, 3)), (X, X, ZERO), (YES, NO, ONE), (X, YES, HALF), (X, neg(X), HALF),
                                    (("and", X, Y), ("or", X, Y), (1, 3)), (("times", X, Y), ("and", X, Y), (1, 6)),
                                    (X, ("times", X, X), (1, 4))):
            self.assertEqual(means.distance_of(first, second), mean, (first, second))

    def test_is_a_mean(self):
        source = random.Random(308)
        zeros = 0
        for count, marks in ((0, 3), (1, 5), (2, 3), (3, 2)):
            for _ in range(30):
                first, second = [random_saying(source, source.randint(0, marks), NAMES[:count]) for _ in range(2)]
                apart = neg(("same", first, second))
                if few_questions(apart):
                    found = means.distance_of(first, second)
                    self.assertTrue(is_value(found))
                    self.assertEqual(found, means.mean_of(apart))
                    self.assertEqual(found, means.distance_of(second, first))
                    self.assertIs(found == ZERO, are_alike(first, second))
                    zeros += found == ZERO
        self.assertGreater(zeros, 5)

    def test_web_of_both_alone_counts(self):
        # The mark that would compare both asks more; it does not count.
        first, second = WEB_OF_8, X
        self.assertEqual(len(web_anew((first, second))), 8)
        self.assertGreater(len(web_anew((("same", first, second),))), 8)
        self.assertTrue(is_value(means.distance_of(first, second)))

    def test_bounds(self):
        check_bounded_pair(self, errors, means.distance_of)
        for two in (TWO_WITH_21, TWO_WITH_9):
            check_raises(self, errors.TooMany, {"what": "questions"}, means.distance_of, *two)


class Slices(unittest.TestCase):
    def slice_by_hand(self, saying, name, value):
        """The mean of a saying of two unknowns, from its breaks along the line."""
        names = names_of(saying)
        fixed = names.index(name)
        x = Fraction(*value)
        places = {Fraction(0), Fraction(1)}
        for form in web_anew((saying,)):
            other = form[2 - fixed]
            if other:
                places.add(Fraction(-(form[0] + form[1 + fixed] * x)) / other)
        places = sorted(place for place in places if 0 <= place <= 1)

        def at(y):
            return worth(saying, names, (x, y) if fixed == 0 else (y, x))
        return sum(((b - a) * (at(a) + at(b)) / 2 for a, b in zip(places, places[1:])), Fraction(0))

    def test_by_hand(self):
        for value, mean in ((ZERO, ZERO), (HALF, (3, 8)), (ONE, HALF), ((1, 3), (5, 18))):
            self.assertEqual(means.mean_with(("and", X, Y), "x", value), mean)
            self.assertEqual(means.mean_with(("and", X, Y), "y", value), mean)
        self.assertEqual(means.mean_with(X, "x", (2, 7)), (2, 7))
        self.assertEqual(means.mean_with(("times", X, X), "x", HALF), ZERO)
        self.assertEqual(means.mean_with(("times", ("times", X, Y), Z), "y", ONE), (1, 6))
        self.assertEqual(means.mean_with(("times", ("times", X, Y), Z), "y", ZERO), ZERO)

    def test_of_one_and_two(self):
        source = random.Random(309)
        for _ in range(40):
            saying = random_saying(source, source.randint(1, 7), ("x",))
            if names_of(saying):
                value = told(Fraction(source.randrange(12), 11))
                self.assertEqual(means.mean_with(saying, "x", value), told(worth(saying, ("x",), (Fraction(*value),))))
            saying = random_saying(source, source.randint(1, 7), ("x", "y"))
            if len(names_of(saying)) == 2 and few_questions(saying):
                values = [ZERO, ONE, told(Fraction(source.randrange(12), 11))]
                values += [point[0] for point in source.sample(corners_anew((saying,)), 2)]
                for name in ("x", "y"):
                    for value in values:
                        mean = means.mean_with(saying, name, value)
                        self.assertTrue(is_value(mean))
                        self.assertEqual(mean, told(self.slice_by_hand(saying, name, value)))

    def test_means_of_slices(self):
        # Between neighbouring coordinates of corners slices are polynomials of degree at most 3.
        source = random.Random(310)
        done = 0
        for count, marks, tries in ((1, 8, 15), (2, 6, 20), (3, 5, 20)):
            for _ in range(tries):
                saying = random_saying(source, marks, NAMES[:count])
                if len(names_of(saying)) != count or not few_questions(saying):
                    continue
                corners = corners_anew((saying,))
                for place, name in enumerate(names_of(saying)):
                    cuts = sorted({Fraction(*point[place]) for point in corners})
                    if len(cuts) <= 14:
                        total = sum(simpson(lambda v: Fraction(*means.mean_with(saying, name, told(v))), low, high)
                                    for low, high in zip(cuts, cuts[1:]))
                        self.assertEqual(told(total), means.mean_of(saying))
                        done += 1
        self.assertGreater(done, 30)

    def test_errors_in_their_order(self):
        for saying in (YES, Y, with_marks(30, [Y, Z, W]), KEPT_AND_PASSED[1][2]):
            check_raises(self, errors.UnknownName, {"name": "u"}, means.mean_with, saying, "u", HALF)
        check_bounded(self, errors, lambda saying: means.mean_with(saying, (names_of(saying) or ("x",))[0], HALF)
                      if names_of(saying) else means.mean_of(saying))
        for kept, _, passed in KEPT_AND_PASSED:
            means.mean_with(kept, "y", HALF)
            check_raises(self, errors.TooMany, {"what": "questions"}, means.mean_with, passed, "y", HALF)


