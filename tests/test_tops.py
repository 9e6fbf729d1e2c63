import itertools
import random
import unittest
from fractions import Fraction

from halftruths import errors, tops
from halftruths.ladders import is_ladder, ladder_at
from tests.helpers import (HALF, ONE, ZERO, check_raises, common_zeros, faces_of, form_worth, grid, pair, point_of)

NAMES = ("x", "y", "z")
PARTS = {0: 1, 1: 30, 2: 8, 3: 4}


def worth_of(rows, place):
    found = [min([form_worth(form, place) for form in row], default=Fraction(1)) for row in rows]
    return min(Fraction(1), max(found + [Fraction(0)]))


def random_form(source, count):
    while True:
        form = (source.randrange(-12, 13),) + tuple(source.randrange(-6, 7) for _ in range(count))
        if sum(abs(number) for number in form[1:]) <= 6:
            return (source.choice((form[0], source.randrange(-4, 5))),) + form[1:]


class Tops(unittest.TestCase):
    def check(self, rows, names):
        ladder = tops.told_tops(rows, names)
        self.assertTrue(is_ladder(ladder))
        self.assertTrue(all(row[1] in names for row in ladder if row[0] == "unknown"))
        count = len(names)
        places = grid(count, PARTS[count])
        forms = [form for row in rows for form in row][:6]
        cut = forms + [(form[0] - 1,) + form[1:] for form in forms]
        corners = [place for place in common_zeros(cut[:8] + faces_of(count), count)
                   if all(0 <= number <= 1 for number in place)]
        for place in places + [list(place) for place in corners[:40]]:
            point = point_of(place)
            expected = pair(worth_of(rows, place))
            self.assertEqual(tops.tops_at(rows, point), expected)
            self.assertEqual(ladder_at(ladder, names, point), expected, (rows, place))

    def test_no_rows_and_empty_rows(self):
        for names in ((), ("x",), NAMES):
            self.check((), names)
            self.check(((),), names)
            self.check(((), ()), names)
        self.check(((), ((0, 1),)), ("x",))
        self.check((((0, 1),), ()), ("x",))
        self.assertEqual(tops.tops_at((), (HALF,)), ZERO)
        self.assertEqual(tops.tops_at(((),), (HALF,)), ONE)

    def test_no_names(self):
        for number in range(-3, 4):
            self.check((((number,),),), ())
        self.check((((5,), (0,)), ((1,), (2,))), ())

    def test_by_hand(self):
        self.check((((0, 1),),), ("x",))
        self.check((((0, 2), (2, -2)),), ("a",))
        self.check((((-1, 1, 1),), ((1, -1, -1),)), ("x", "y"))
        self.assertEqual(tops.tops_at((((0, 2), (2, -2)),), ((1, 4),)), HALF)

    def test_each_form_of_one_unknown(self):
        for slope in range(-6, 7):
            for number in range(-8, 9):
                self.check((((number, slope),),), ("x",))

    def test_at_random(self):
        source = random.Random(81)
        for count in (1, 2, 3):
            for _ in range(8):
                rows = tuple(tuple(random_form(source, count) for _ in range(source.randrange(1, 6)))
                             for _ in range(source.randrange(1, 6)))
                self.check(rows, NAMES[:count])

    def test_at_the_bounds(self):
        source = random.Random(82)
        forms = []
        for slopes in itertools.product(range(-6, 7), repeat=3):
            if sum(abs(number) for number in slopes) == 6:
                forms.append(slopes)
        for _ in range(3):
            rows = tuple(tuple((source.randrange(-3, 4),) + source.choice(forms) for _ in range(5)) for _ in range(5))
            self.check(rows, NAMES)
        self.check((((12, -6, 0), (-12, 0, 6)), ((12, 3, -3), (0, -6, 0))), ("x", "y"))

    def test_errors_in_their_order(self):
        told = tops.told_tops
        many = errors.TooMany
        wide = ((0, 7),) * 6
        check_raises(self, many, {"what": "unknowns"}, told, (), ("a", "b", "c", "d"))
        check_raises(self, many, {"what": "unknowns"}, told, (wide,) * 6, ("a", "b", "c", "d"))
        check_raises(self, many, {"what": "rows"}, told, (wide,) * 6, ("x",))
        check_raises(self, many, {"what": "rows"}, told, ((),) * 6, ("x",))
        check_raises(self, many, {"what": "forms"}, told, (((0, 7),), wide), ("x",))
        check_raises(self, many, {"what": "forms"}, told, ((), ((0, 1),) * 6), ("x",))
        for form in ((0, 7), (0, -7), (13, 0), (-13, 0)):
            check_raises(self, errors.TooGreat, {"what": "coefficients"}, told, ((), ((0, 1), form)), ("x",))
        for form in ((0, 3, 3, 1), (0, -3, 3, -1), (0, 0, 0, 7), (13, 0, 0, 0)):
            check_raises(self, errors.TooGreat, {"what": "coefficients"}, told, ((form,),), NAMES)

    def test_values_of_greater_ones(self):
        rows = tuple(((k - 20, 9 * k, -k),) * 7 for k in range(9))
        for place in grid(2, 5):
            self.assertEqual(tops.tops_at(rows, point_of(place)), pair(worth_of(rows, place)))
