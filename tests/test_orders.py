import random
import unittest
from fractions import Fraction

from halftruths import errors, orders
from tests.helpers import (HALF, NO, ONE, W, X, Y, YES, Z, ZERO, check_raises, chained, neg, nots, pair, point_of)
from tests.meanings import order_places, order_worth, plus_in_each_place, random_meant

NAMES = ("x", "y", "z", "w")
V = ("unknown", "v")
FIVE = chained("and", [X, Y, Z, W, V])
FOUR = chained("or", [X, Y, Z, W])
THIRD = (1, 3)


def kind_of(place):
    inner = sorted({number for number in place if 0 < number < 1})
    return tuple(0 if number == 0 else len(place) + 1 if number == 1 else inner.index(number) + 1 for number in place)


def all_kinds(count):
    return sorted({kind_of(place) for place in order_places(count, count + 1)})


def place_of_kind(kind):
    return [Fraction(level, len(kind) + 1) for level in kind]


def valid_anew(saying, names, steps):
    return all(order_worth(saying, names, place) == 1 for place in order_places(len(names), steps))


def names_in_order(*sayings):
    found = []

    def look(saying):
        if saying[0] == "unknown" and saying[1] not in found:
            found.append(saying[1])
        for part in saying[1:]:
            if isinstance(part, tuple):
                look(part)
    for saying in sayings:
        look(saying)
    return tuple(found)


def check_meant_first(test, function):
    """Fails if the two errors that come first do not come, or not in their order; function takes a saying."""
    for bad in plus_in_each_place():
        check_raises(test, errors.WrongMark, {"mark": "plus"}, function, bad)
        check_raises(test, errors.WrongMark, {"mark": "plus"}, function, ("and", FIVE, bad))
    check_raises(test, errors.TooMany, {"what": "unknowns"}, function, FIVE)
    check_raises(test, errors.TooMany, {"what": "unknowns"}, function, neg(("or", NO, FIVE)))


class Types(unittest.TestCase):
    def test_counts(self):
        for count, many in enumerate((1, 3, 11, 51, 299)):
            kinds = orders.order_types(count)
            self.assertEqual(len(kinds), many)
            self.assertEqual(list(kinds), all_kinds(count))
            self.assertIs(type(kinds), tuple)
        self.assertEqual(orders.order_types(0), ((),))
        self.assertEqual(orders.order_types(1), ((0,), (1,), (2,)))
        self.assertEqual(orders.order_types(2)[4:7], ((1, 1), (1, 2), (1, 3)))

    def test_type_of_point(self):
        self.assertEqual(orders.order_type_of(()), ())
        self.assertEqual(orders.order_type_of((HALF, ZERO, ONE)), (1, 0, 4))
        self.assertEqual(orders.order_type_of((HALF, THIRD, HALF, (2, 3))), (2, 1, 2, 3))
        for count in (1, 2, 3, 4):
            for place in order_places(count, 5 if count < 4 else 4):
                self.assertEqual(orders.order_type_of(point_of(place)), kind_of(place))

    def test_points_of_types(self):
        self.assertEqual(orders.point_of_type((1, 0, 4, 1)), ((1, 5), ZERO, (4, 5), (1, 5)))
        for count in range(5):
            for kind in orders.order_types(count):
                point = orders.point_of_type(kind)
                self.assertEqual(point, tuple(pair(Fraction(level, count + 1)) for level in kind))
                self.assertEqual(orders.order_type_of(point), kind)

    def test_raised_types(self):
        self.assertEqual(orders.raised_type((1, 2, 2, 0)), (1, 5, 5, 0))
        self.assertEqual(orders.raised_type((1,)), (2,))
        for count in range(5):
            for kind in orders.order_types(count):
                blocks = max([level for level in kind if level <= count], default=0)
                if blocks:
                    raised = tuple(count + 1 if level == blocks else level for level in kind)
                    self.assertEqual(orders.raised_type(kind), raised)
                    self.assertIn(raised, orders.order_types(count))
                else:
                    check_raises(self, errors.OutOfRange, {"value": kind}, orders.raised_type, kind)


class Values(unittest.TestCase):
    def test_by_hand(self):
        for saying, told in ((neg(X), ZERO), (neg(neg(X)), ONE), (neg(NO), ONE), (neg(YES), ZERO), (X, THIRD), (Y, HALF),
                             (("times", X, Y), THIRD), (("times", X, X), THIRD), (("and", Y, X), THIRD),
                             (("or", X, Y), HALF), (("leads", X, Y), ONE), (("leads", Y, X), THIRD),
                             (("leads", Y, Y), ONE), (("same", X, Y), THIRD), (("same", Y, Y), ONE)):
            self.assertEqual(orders.order_value(saying, ("x", "y"), (THIRD, HALF)), told)
        self.assertEqual(orders.order_value(("same", X, Y), ("x", "y"), (ZERO, HALF)), ZERO)
        self.assertEqual(orders.order_value(YES, (), ()), ONE)
        self.assertEqual(orders.order_value(NO, ("q",), (HALF,)), ZERO)

    def test_at_random(self):
        source = random.Random(101)
        for count in range(5):
            for _ in range(20):
                saying = random_meant(source, 6, NAMES[:count])
                place = [Fraction(source.randrange(6), 5) for _ in range(count)]
                told = pair(order_worth(saying, NAMES[:count], place))
                self.assertEqual(orders.order_value(saying, NAMES[:count], point_of(place)), told)

    def test_levels_at_random(self):
        source = random.Random(102)
        for count in range(5):
            kinds = orders.order_types(count)
            for _ in range(6):
                saying = random_meant(source, 5, NAMES[:count])
                for kind in source.sample(kinds, min(30, len(kinds))):
                    told = order_worth(saying, NAMES[:count], place_of_kind(kind)) * (count + 1)
                    self.assertEqual(orders.order_level(saying, NAMES[:count], kind), told)

    def test_names_that_do_not_stand_in_it(self):
        self.assertEqual(orders.order_value(X, ("a", "x", "b", "c", "d"), (ZERO, HALF, ONE, ONE, ONE)), HALF)
        self.assertEqual(orders.order_level(X, ("a", "x"), (1, 2)), 2)
        self.assertEqual(orders.order_level(neg(X), ("a", "x"), (1, 0)), 3)

    def test_errors_in_their_order(self):
        for function, at in ((orders.order_value, ()), (orders.order_level, ())):
            check_raises(self, errors.UnknownName, {"name": "x"}, function, X, (), at)
            check_raises(self, errors.UnknownName, {"name": "y"}, function, ("and", X, ("or", Y, Z)), ("x",),
                         (HALF,) if function is orders.order_value else (1,))
            check_meant_first(self, lambda saying: function(saying, (), at))
        self.assertEqual(orders.order_value(FOUR, NAMES, (ZERO,) * 4), ZERO)


class Validity(unittest.TestCase):
    def test_by_hand(self):
        prelinear = ("or", ("leads", X, Y), ("leads", Y, X))
        for saying, valid, steps in (
                (YES, True, None), (NO, False, 1), (X, False, 1), (("leads", X, X), True, None),
                (("or", X, neg(X)), False, 2), (prelinear, True, None), (("leads", neg(neg(X)), X), False, 2),
                (("or", ("or", X, ("leads", X, Y)), neg(Y)), False, 3),
                (("leads", X, ("times", X, X)), True, None), (("or", neg(X), neg(neg(X))), True, None)):
            self.assertIs(orders.order_valid(saying), valid, saying)
            self.assertEqual(orders.order_steps(saying), steps, saying)

    def test_long_chains(self):
        # Not valid in a chain exactly if all these values can lie one above the other, the first one above 0.
        saying = neg(W)
        for low, high in ((W, Z), (Z, Y), (Y, X)):
            saying = ("or", saying, ("leads", high, low))
        saying = ("or", saying, X)
        self.assertEqual(orders.order_steps(saying), 5)
        self.assertTrue(orders.order_valid_in(saying, 4))
        self.assertFalse(orders.order_valid_in(saying, 5))
        self.assertFalse(orders.order_valid_in(saying, 1000))

    def test_at_random(self):
        source = random.Random(103)
        seen = set()
        for count in (0, 1, 2, 3):
            for _ in range(40):
                saying = ("or", random_meant(source, 3, NAMES[:count]), random_meant(source, 2, NAMES[:count]))
                names = names_in_order(saying)
                steps = orders.order_steps(saying)
                seen.add(steps)
                for d in range(1, count + 3):
                    valid = valid_anew(saying, names, d)
                    self.assertIs(orders.order_valid_in(saying, d), valid)
                    self.assertIs(valid, steps is None or d < steps)
                self.assertIs(orders.order_valid(saying), steps is None)
        self.assertTrue({None, 1, 2} <= seen)

    def test_steps_out_of_range(self):
        for steps in (0, -1, 1001, 10 ** 20):
            check_raises(self, errors.OutOfRange, {"value": steps}, orders.order_valid_in, X, steps)
            check_meant_first(self, lambda saying: orders.order_valid_in(saying, steps))
        self.assertTrue(orders.order_valid_in(YES, 1))
        self.assertTrue(orders.order_valid_in(("leads", X, X), 1000))

    def test_errors(self):
        for function in (orders.order_valid, orders.order_steps, lambda saying: orders.order_valid_in(saying, 3)):
            check_meant_first(self, function)
            function(FOUR)

    def test_great_sayings(self):
        saying = chained("leads", [X, Y, Z, W] * 12)
        self.assertIs(orders.order_valid(saying), valid_anew(saying, NAMES, 5))
        self.assertTrue(orders.order_valid(nots(YES, 58)))


class Pairs(unittest.TestCase):
    def test_alike(self):
        for first, second, kind in (
                (X, X, None), (("times", X, Y), ("and", Y, X), None), (X, neg(neg(X)), (1,)), (YES, NO, ()),
                (("leads", X, NO), neg(X), None), (X, Y, (0, 1)), (("same", X, Y), ("and", ("leads", X, Y),
                                                                                   ("leads", Y, X)), None)):
            self.assertEqual(orders.order_parting(first, second), kind)
            self.assertIs(orders.order_alike(first, second), kind is None)

    def test_at_random(self):
        source = random.Random(104)
        alike = 0
        for _ in range(150):
            count = source.randrange(1, 4)
            first = random_meant(source, source.randrange(3), NAMES[:count])
            second = random_meant(source, source.randrange(3), NAMES[:count])
            names = names_in_order(first, second)
            told = None
            for kind in all_kinds(len(names)):
                place = place_of_kind(kind)
                if order_worth(first, names, place) != order_worth(second, names, place):
                    told = kind
                    break
            alike += told is None
            self.assertEqual(orders.order_parting(first, second), told)
            self.assertIs(orders.order_alike(first, second), told is None)
        self.assertGreater(alike, 5)

    def test_follows(self):
        for givens, saying, told in (
                ((), YES, True), ((), X, False), ((), ("leads", X, X), True), ((X,), X, True), ((X,), Y, False),
                ((X, ("leads", X, Y)), Y, True), ((NO,), X, True), ((X, neg(X)), NO, True), ((X,), ("times", X, X), True),
                ((neg(neg(X)),), X, False), ((X, Y, Z), ("and", ("and", X, Y), Z), True), ((YES,) * 20, X, False)):
            self.assertIs(orders.order_follows(givens, saying), told, (givens, saying))

    def test_follows_at_random(self):
        source = random.Random(105)
        seen = []
        for _ in range(120):
            names = NAMES[:source.randrange(1, 4)]
            givens = tuple(random_meant(source, source.randrange(3), names) for _ in range(source.randrange(4)))
            saying = random_meant(source, 2, names)
            told = all(order_worth(saying, names, place) == 1 for place in order_places(len(names), len(names) + 1)
                       if all(order_worth(given, names, place) == 1 for given in givens))
            seen.append(told)
            self.assertIs(orders.order_follows(givens, saying), told)
            if len(givens) == 1:
                self.assertIs(orders.order_valid(("leads", givens[0], saying)), told)
        self.assertTrue(20 < sum(seen) < 110)

    def test_errors(self):
        two = ("and", X, Y)
        for function in (orders.order_alike, orders.order_parting, lambda a, b: orders.order_follows((a,), b),
                         lambda a, b: orders.order_follows((YES, a), b), lambda a, b: orders.order_follows((a, b), X)):
            check_meant_first(self, lambda saying: function(saying, X))
            check_meant_first(self, lambda saying: function(X, saying))
            check_raises(self, errors.TooMany, {"what": "unknowns"}, function, two, ("and", Z, ("or", W, V)))
            check_raises(self, errors.WrongMark, {"mark": "plus"}, function, FIVE, ("plus", X, X))
            function(two, ("and", Z, W))
        check_meant_first(self, lambda saying: orders.order_follows((), saying))
        check_raises(self, errors.TooMany, {"what": "unknowns"}, orders.order_follows, (X, Y, Z, W), V)
