import itertools
import random
import unittest
from fractions import Fraction

from halftruths import errors, regions
from halftruths.sayings import is_saying
from halftruths.web import corners_of
from tests.helpers import (HALF, NO, ONE, X, Y, YES, Z, ZERO, check_bounded, check_raises, form_worth, fractions_of,
                           grid, names_of, neg, point_of, random_saying, vertices, with_marks, worth)

NAMES = ("x", "y", "z")
GRIDS = {0: (1,), 1: (12, 13), 2: (6, 7), 3: (3, 4)}


def inside(region, place):
    return any(all(form_worth(form, place) >= 0 for form in path) for path in region)


def places_for(region, count):
    """The points of some grids and the corners of all paths, with what lies half-way between some of them."""
    found = [place for parts in GRIDS[count] for place in grid(count, parts)]
    for path in region:
        corners = vertices(path, count)
        found += corners
        found += [[(a + b) / 2 for a, b in zip(*pair)] for pair in itertools.combinations(corners[:6], 2)]
    return found


def random_form(source, count):
    while True:
        form = tuple(source.randrange(-4, 5) for _ in range(count + 1))
        if sum(abs(number) for number in form[1:]) <= 4:
            return form


class InRegion(unittest.TestCase):
    def test_by_hand(self):
        below_half = ((1, -2),)
        for region, point, told in (
                ((), (HALF,), False), ((), (), False), (((),), (), True), (((),), (ONE, ZERO, HALF), True),
                ((below_half,), (HALF,), True), ((below_half,), ((2, 3),), False), ((below_half,), (ZERO,), True),
                ((below_half, ((-1, 1),)), (ONE,), True), ((below_half, ((-1, 1),)), ((2, 3),), False),
                ((((0, 1, -1), (0, -1, 1)),), ((1, 3), (1, 3)), True),
                ((((0, 1, -1), (0, -1, 1)),), ((1, 3), HALF), False),
                ((((-1,),), ((0,),)), (), True), ((((-1,),),), (), False)):
            self.assertIs(regions.in_region(region, point), told)

    def test_at_random(self):
        source = random.Random(41)
        for count in (1, 2, 3):
            for _ in range(10):
                region = tuple(tuple(random_form(source, count) for _ in range(source.randrange(4)))
                               for _ in range(source.randrange(4)))
                for place in places_for(region, count)[:60]:
                    self.assertIs(regions.in_region(region, point_of(place)), inside(region, place))


class YesRegion(unittest.TestCase):
    def check(self, saying):
        names = names_of(saying)
        region = regions.yes_region(saying)
        self.assertLessEqual(len(region), 600)
        for path in region:
            self.assertLessEqual(len(path), 16)
            for form in path:
                self.assertEqual(len(form), len(names) + 1)
                self.assertTrue(all(type(number) is int and -100 <= number <= 100 for number in form))
        places = places_for(region[:40], len(names)) + [fractions_of(point) for point in corners_of((saying,))]
        for place in places[:700]:
            self.assertIs(inside(region, place), worth(saying, names, place) == 1, (saying, place))

    def test_by_hand(self):
        self.assertTrue(regions.in_region(regions.yes_region(YES), ()))
        self.assertFalse(regions.in_region(regions.yes_region(NO), ()))
        for saying in (YES, NO, X, neg(X), ("or", X, neg(X)), ("times", X, neg(X)), ("leads", X, X), ("or", X, Y),
                       ("plus", X, Y), ("and", X, ("or", Y, neg(Z))), ("same", X, Y), ("same", X, neg(X))):
            self.check(saying)

    def test_at_random(self):
        source = random.Random(42)
        for count, marks in ((1, 12), (2, 6), (3, 5)):
            for _ in range(6):
                saying = random_saying(source, marks, NAMES[:count])
                if len(names_of(saying)) == count:
                    self.check(saying)

    def test_many_paths(self):
        tent = X
        for _ in range(3):
            tent = ("same", tent, neg(tent))
        self.check(tent)
        self.check(("or", ("or", ("same", X, Y), ("same", neg(X), Y)),
                    ("or", ("same", ("plus", X, X), Y), ("same", X, ("plus", Y, Y)))))

    def test_bounds(self):
        check_bounded(self, errors, regions.yes_region)


class SayingOfRegion(unittest.TestCase):
    def check(self, region, names):
        saying = regions.saying_of_region(region, names)
        self.assertTrue(is_saying(saying))
        self.assertTrue(set(names_of(saying)) <= set(names))
        for place in places_for(region, len(names)):
            self.assertIs(worth(saying, names, place) == 1, inside(region, place), (region, place))

    def test_no_paths_and_empty_paths(self):
        for names in ((), ("x",), NAMES):
            self.check((), names)
            self.check(((),), names)
            self.check(((), ()), names)
        self.check(((), ((-1, 2),)), ("x",))
        self.check((((-1, 2),), ()), ("x",))

    def test_forms_without_unknowns(self):
        for number in range(-4, 5):
            self.check((((number,),),), ())
            self.check((((number, 0, 0), (0, 1, -1)),), ("y", "x"))
        self.check((((1,), (-1,)), ((0,), (4,))), ())

    def test_each_form(self):
        for number in range(-4, 5):
            for slope in range(-4, 5):
                self.check((((number, slope),),), ("x",))
                for other in range(abs(slope) - 4, 5 - abs(slope)):
                    self.check((((number, slope, other),),), ("y", "x"))

    def test_at_random(self):
        source = random.Random(43)
        for count in (1, 2, 3):
            for _ in range(12):
                self.check(tuple(tuple(random_form(source, count) for _ in range(source.randrange(4)))
                                 for _ in range(source.randrange(1, 4))), NAMES[:count])

    def test_greatest(self):
        for form in ((1, -4, 0, 0), (0, -3, 0, 1), (-2, 0, 4, 0), (0, -2, 1, 1), (-1, -2, 0, 2), (-4, 2, 1, 1)):
            self.check(((form,) * 3,) * 3, NAMES)
        self.check((((4, -4), (-4, 4)), ((4, 4),), ((-4, -4),)), ("x",))

    def test_too_many_and_too_great(self):
        told = regions.saying_of_region
        forms = ((0, 1),) * 4
        check_raises(self, errors.TooMany, {"what": "paths"}, told, ((),) * 4, ("x",))
        check_raises(self, errors.TooMany, {"what": "paths"}, told, (forms, ((9, 9),), (), ()), ("x",))
        check_raises(self, errors.TooMany, {"what": "forms"}, told, ((), (), forms), ("x",))
        check_raises(self, errors.TooMany, {"what": "forms"}, told, (forms, ((9, 9),)), ("x",))
        check_raises(self, errors.TooGreat, {"what": "form"}, told, (((9, 9),), forms), ("x",))
        check_raises(self, errors.TooMany, {"what": "forms"}, told, (((9, 9),) * 4,), ("x",))
        for form in ((5, 0, 0), (-5, 0, 0), (0, 5, 0), (0, 0, -5), (0, 3, -2), (0, -3, -2)):
            check_raises(self, errors.TooGreat, {"what": "form"}, told, (((0, 0, 1), form),), ("x", "y"))
            check_raises(self, errors.TooGreat, {"what": "form"}, told, ((), ((0, 0, 1), form)), ("x", "y"))

    def test_there_and_back(self):
        source = random.Random(44)
        for _ in range(20):
            saying = random_saying(source, 2, ["x", "y"])
            names = names_of(saying)
            region = regions.yes_region(saying)
            if len(region) <= 3:
                back = regions.saying_of_region(region, names)
                for place in grid(len(names), 12):
                    self.assertIs(worth(back, names, place) == 1, worth(saying, names, place) == 1)

    def test_other_coordinates(self):
        saying = regions.saying_of_region((((-1, 3, 0),),), ("b", "a"))
        self.assertEqual(names_of(saying), ("b",))
        self.assertEqual(worth(saying, ("b",), [Fraction(1, 3)]), 1)
        self.assertLess(worth(saying, ("b",), [Fraction(33, 100)]), 1)
        self.assertEqual(regions.yes_region(with_marks(3, [YES])), ((),))
