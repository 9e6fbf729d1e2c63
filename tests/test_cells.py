import random
import unittest
from fractions import Fraction

from halftruths import cells
from halftruths.values import is_point
from tests.helpers import HALF, ONE, ZERO, form_worth, fractions_of, minus, sum_of, vertices


class Reckoned(unittest.TestCase):
    """What cells tells, reckoned anew."""

    def check_least(self, path, form):
        count = len(form) - 1
        told = cells.least_on(path, form)
        worths = [form_worth(form, place) for place in vertices(path, count)]
        if not worths:
            self.assertIsNone(told)
            return
        point, k, multiples = told
        self.assertIs(type(told), tuple)
        self.assertTrue(is_point(point, count))
        place = fractions_of(point)
        self.assertTrue(all(form_worth(other, place) >= 0 for other in path))
        self.assertEqual(form_worth(form, place), min(worths))
        self.assertIs(type(multiples), tuple)
        self.assertTrue(type(k) is int and k >= 1)
        rest = [k * number - s for number, s in zip(form, sum_of(path, count, multiples))]
        self.assertFalse(any(rest[1:]))
        self.assertEqual(Fraction(rest[0], k), min(worths))

    def check_emptiness(self, path, count):
        told = cells.emptiness(path, count)
        if vertices(path, count):
            self.assertIsNone(told)
            return
        self.assertIs(type(told), tuple)
        total = sum_of(path, count, told)
        self.assertFalse(any(total[1:]))
        self.assertLess(total[0], 0)

    def check_sign(self, path, form):
        worths = [form_worth(form, place) for place in vertices(path, len(form) - 1)]
        told = bool(worths) and min(worths) < 0 < max(worths)
        self.assertIs(cells.changes_sign(path, form), told)

    def check_all(self, path, form):
        self.check_least(path, form)
        self.check_emptiness(path, len(form) - 1)
        self.check_sign(path, form)
        self.check_sign(path, minus(form))


class NoUnknowns(Reckoned):
    def test_no_path(self):
        for number in (-3, 0, 4):
            self.assertEqual(cells.least_on((), (number,)), ((), 1, ()))
            self.assertIs(cells.changes_sign((), (number,)), False)
        self.assertIsNone(cells.emptiness((), 0))

    def test_path(self):
        self.assertIsNone(cells.emptiness(((0,), (5,)), 0))
        self.assertIsNone(cells.least_on(((3,), (-1,)), (5,)))
        for path in (((3,),), ((0,),), ((3,), (-1,)), ((-2,), (-2,)), ((0,), (1,), (-10 ** 50,))):
            self.check_all(path, (7,))


class OneUnknown(Reckoned):
    def test_by_hand(self):
        point, k, multiples = cells.least_on((), (0, 1))
        self.assertEqual((point, multiples), ((ZERO,), (k, 0)))
        self.assertEqual(cells.least_on((), (0, -1))[0], (ONE,))
        self.assertEqual(cells.least_on(((-1, 2),), (0, 3))[0], (HALF,))

    def test_thin_and_empty(self):
        thin = ((-1, 2), (1, -2))
        self.assertIsNone(cells.emptiness(thin, 1))
        self.assertEqual(cells.least_on(thin, (5, -1))[0], (HALF,))
        self.assertIs(cells.changes_sign(thin, (-1, 2)), False)
        self.assertIs(cells.changes_sign(thin, (-1, 3)), False)
        empty = ((-2, 3), (1, -2))
        self.assertIsNone(cells.least_on(empty, (0, 0)))
        self.assertIsNotNone(cells.emptiness(empty, 1))
        self.assertIs(cells.changes_sign(empty, (-1, 2)), False)
        self.assertIsNotNone(cells.emptiness(((-2, 1),), 1))
        self.assertIsNotNone(cells.emptiness(((0, 0), (-1, 0)), 1))
        for path in (thin, empty, ((-2, 1),), ((-1, 1),), ((0, -1),), ((-1, 0),), ((0, 0),)):
            for form in ((0, 0), (-1, 2), (1, 0), (-1, 0), (3, -7)):
                self.check_all(path, form)

    def test_touching_is_no_change_of_sign(self):
        self.assertIs(cells.changes_sign((), (-1, 2)), True)
        self.assertIs(cells.changes_sign((), (0, 1)), False)
        self.assertIs(cells.changes_sign((), (-1, 1)), False)
        self.assertIs(cells.changes_sign(((-1, 2),), (-1, 2)), False)
        self.assertIs(cells.changes_sign((), (0, 0)), False)


class MoreUnknowns(Reckoned):
    def test_thin_cells(self):
        line = ((-1, 1, 1), (1, -1, -1))
        spot = line + ((0, 1, -1), (0, -1, 1))
        for form in ((0, 1, 0), (0, 1, -1), (-1, 1, 1), (-1, 2, 0), (0, 0, 0), (3, 5, 7)):
            self.check_all(line, form)
            self.check_all(spot, form)
        plane = ((-1, 1, 1, 1), (1, -1, -1, -1))
        for form in ((0, 1, 0, 0), (-1, 1, 1, 1), (-1, 2, 0, 0), (0, 1, -1, 0), (0, 2, -1, -1)):
            self.check_all(plane, form)
            self.check_all(plane + ((0, 1, -1, 0), (0, -1, 1, 0)), form)

    def test_corners_of_the_cube(self):
        for path in (((-3, 1, 1, 1),), ((0, -1, -1, -1),)):
            for form in ((0, 1, 1, 1), (-1, 1, 1, 1), (1, -1, 2, -3)):
                self.check_all(path, form)
        self.check_all(((-4, 1, 1, 1),), (0, 1, 1, 1))

    def test_many_forms_meet_at_one_point(self):
        path = tuple((0, a, b, -a - b) for a, b in ((1, 0), (0, 1), (1, 1), (2, 1), (1, 2), (3, 1), (1, 3), (2, 3)))
        path += tuple(minus(form) for form in path)
        self.assertEqual(len(path), 16)
        for form in ((0, 1, 2, 3), (0, -1, -1, -1), (-1, 1, 1, 1), (0, 0, 0, 0), (2, -1, 3, -5)):
            self.check_all(path, form)


class AtRandom(Reckoned):
    def try_some(self, seed, times, great):
        source = random.Random(seed)
        for _ in range(times):
            count = source.randrange(4)
            size = source.choice((0, 1, 2, 3, 5, 8, 16)) if count < 3 else source.choice((0, 1, 2, 3, 5, 7))
            bound = source.choice((1, 2, 5, great))

            def some_form():
                form = [source.randint(-bound, bound) for _ in range(count + 1)]
                # Without this, most cells of long paths are empty.
                form[0] += source.choice((0, 1, bound))
                return tuple(form)
            self.check_all(tuple(some_form() for _ in range(size)), some_form())

    def test_small_integers(self):
        self.try_some(4, 300, 20)

    def test_great_integers(self):
        self.try_some(5, 150, 10 ** 60)

    def test_paths_of_16_forms(self):
        source = random.Random(6)
        for count in (0, 1, 2, 3):
            for _ in range(4):
                forms = []
                while len(forms) < 16:
                    form = tuple(source.randint(-4, 4) for _ in range(count + 1))
                    if 2 * form[0] + sum(form[1:]) >= 0:
                        forms.append(form)
                self.check_all(tuple(forms), tuple(source.randint(-4, 4) for _ in range(count + 1)))

    def test_equal_calls(self):
        path = ((-1, 1, 1), (1, -2, 1))
        self.assertEqual(cells.least_on(path, (0, 1, 3)), cells.least_on(path, (0, 1, 3)))


class NearlyEmpty(Reckoned):
    def test_great_numbers_just_apart(self):
        big = 10 ** 80
        # x is at least big / (2 big + 1) and at most (big + 1) / (2 big + 3), or the other way round.
        low, high = (-big, 2 * big + 1), (big + 1, -(2 * big + 3))
        self.check_all((low, high), (0, 1))
        self.check_all((minus(low), minus(high)), (0, 1))
        self.check_all((low + (0,), high + (0,), (-1, 1, 1)), (0, 1, -1))
