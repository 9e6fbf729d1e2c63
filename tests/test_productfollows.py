import itertools
import random
import unittest

from halftruths import errors, productfollows
from halftruths.productvalid import is_product_valid, product_validity
from halftruths.sayings import marks_in, used_times
from tests.cones import judged, pieces_anew, rays
from tests.helpers import NO, W, X, Y, YES, Z, check_raises, names_of, neg
from tests.meanings import place_of, plus_in_each_place, product_worth, random_meant, some_lengths, with_meant_marks
from tests.test_productvalid import VALID, changed_once, greater

NAMES = ("x", "y", "z")
SQUARE = ("times", X, X)
CUBE = ("times", X, SQUARE)
EXAMPLES = ((("times", X, Y), X, 1), (X, SQUARE, 2), (SQUARE, X, 1), (X, CUBE, 3), (SQUARE, CUBE, 2), (X, X, 1),
            (X, YES, 0), (NO, X, 1), (NO, NO, 1), (YES, YES, 0), (neg(X), neg(X), 1), (neg(neg(X)), neg(neg(X)), 1),
            (("and", X, Y), ("times", X, Y), 2), (("times", X, Y), ("and", X, Y), 1), (X, ("or", X, Y), 1),
            (("times", X, ("leads", X, Y)), Y, 1), (("and", X, ("leads", X, Y)), Y, 2), (neg(X), ("leads", X, Y), 1),
            (X, used_times(X, 9), 9), (used_times(X, 3), used_times(X, 7), 3), (neg(YES), Y, 1),
            (("and", ("times", X, X), ("times", Y, ("times", Y, Y))), ("times", X, ("times", Y, Z)), None),
            (("and", SQUARE, ("times", Y, ("times", Y, Y))), ("times", X, Y), 1), (("or", X, Y), X, None),
            (YES, X, None), (X, NO, None), (X, Y, None), (neg(neg(X)), X, None), (X, neg(X), None), (YES, NO, None),
            (("leads", Y, X), ("leads", X, Y), None), (("and", X, neg(Y)), ("times", SQUARE, neg(Y)), 2))


def cases(count):
    return list(itertools.product((0, 1), repeat=count))


def is_derivation(first, second, value, plain=False):
    """Whether a value is a derivation by products, judged anew."""
    names = names_of(first, second)
    if type(value) is not tuple or len(value) != 2:
        return False
    uses, entries = value
    if type(uses) is not int or uses < 0 or type(entries) is not tuple or len(entries) != 2 ** len(names):
        return False
    for case, entry in zip(cases(len(names)), entries):
        if uses == 0:
            fits = judged((second,), case, (-1,), entry, plain, names)
        elif product_worth(first, names, case) == 0:
            fits = type(entry) is tuple and entry == ()
        else:
            fits = judged((first, second), case, (uses, -1), entry, plain, names)
        if not fits:
            return False
    return True


def least_use(first, second):
    """The least use, from the rays of all cones; None if the second saying does not follow."""
    names = names_of(first, second)
    uses = 0
    for case in cases(len(names)):
        places = [k for k, entry in enumerate(case) if entry]
        for path, (left, right) in pieces_anew((first, second), case):
            if left is None:
                uses = max(uses, 0 if right is not None and not any(right) else 1)
                continue
            if right is None:
                return None
            for ray in rays(path, places):
                a, b = [sum(form[place] * number for place, number in zip(places, ray)) for form in (left, right)]
                if a == 0 < b:
                    return None
                uses = max(uses, -(-b // a) if a else 0)
    return uses


class Follows(unittest.TestCase):
    def check(self, first, second):
        names = names_of(first, second)
        uses = productfollows.product_use(first, second)
        self.assertEqual(uses, least_use(first, second), (first, second))
        derivation = productfollows.product_derivation(first, second)
        gap = productfollows.product_gap(first, second)
        if uses is None:
            self.assertIsNone(derivation)
            self.check_gap(first, second, gap)
            return None
        self.assertIs(type(uses), int)
        self.assertIsNone(gap)
        self.assertEqual(derivation[0], uses)
        self.assertTrue(is_derivation(first, second, derivation, True), (first, second, derivation))
        self.assertIs(productfollows.is_product_derivation(first, second, derivation), True)
        for lengths in some_lengths(len(names), 2):
            place = place_of(lengths)
            self.assertLessEqual(product_worth(first, names, place) ** uses, product_worth(second, names, place))
        return uses

    def check_gap(self, first, second, gap):
        names = names_of(first, second)
        self.assertIs(type(gap), tuple)
        self.assertEqual(len(gap), len(names))
        for length in gap:
            self.assertTrue(length is None or (type(length) is int and 0 <= length <= 1000))
        self.assertEqual(product_worth(first, names, place_of(gap)), 1)
        self.assertLess(product_worth(second, names, place_of(gap)), 1)

    def test_examples(self):
        for first, second, uses in EXAMPLES:
            self.assertEqual(self.check(first, second), uses, (first, second))
        self.assertEqual(product_worth(("or", X, Y), ("x", "y"), place_of((1, 0))), 1)
        self.assertLess(product_worth(X, ("x", "y"), place_of((1, 0))), 1)

    def test_at_random(self):
        source = random.Random(201)
        found = {}
        for count, marks, tries in ((0, 3, 20), (1, 4, 120), (2, 3, 120), (3, 3, 60)):
            for _ in range(tries):
                first = random_meant(source, source.randrange(marks + 1), NAMES[:count])
                second = random_meant(source, source.randrange(marks + 1), NAMES[:count])
                uses = self.check(first, second)
                found[uses] = found.get(uses, 0) + 1
        self.assertTrue(all(found.get(uses, 0) > 20 for uses in (None, 0, 1)), found)

    def test_what_follows_in_some_way(self):
        source = random.Random(202)
        found = {}
        for count, marks, tries in ((1, 2, 60), (2, 1, 60), (3, 1, 40)):
            for _ in range(tries):
                first = random_meant(source, source.randrange(marks + 1), NAMES[:count], 0)
                powers = [used_times(first, source.randint(1, 3)), YES,
                          ("leads", ("unknown", source.choice(NAMES[:count])), first)]
                uses = self.check(("and", first, YES), source.choice(powers))
                found[uses] = found.get(uses, 0) + 1
        self.assertTrue(all(found.get(uses, 0) > 2 for uses in (0, 1, 2, 3)), found)

    def test_great_ones(self):
        source = random.Random(203)
        for count, marks in ((1, 12), (2, 9), (3, 7)):
            for k in range(marks + 1):
                self.check(random_meant(source, k, NAMES[:count]), random_meant(source, marks - k, NAMES[:count], 0))
        self.assertEqual(self.check(X, used_times(X, 13)), 13)
        self.assertEqual(self.check(("and", X, Y), ("times", used_times(X, 4), used_times(Y, 4))), 8)

    def test_uses_are_valid_leads(self):
        # (A used n times) leads B is valid by products just from the least use on.
        for first, second, uses in EXAMPLES:
            for n in range(4):
                leads = ("leads", used_times(first, n), second)
                if marks_in(leads) <= (12, 12, 9, 7)[len(names_of(leads))]:
                    self.assertIs(is_product_valid(leads), uses is not None and n >= uses, (first, second, n))

    def test_least_use_nothing_is_validity(self):
        for saying in VALID:
            self.assertEqual(self.check(Y, saying), 0)
        value = productfollows.product_derivation(X, ("leads", X, X))
        self.assertEqual(value, (0, product_validity(("leads", X, X))))

    def test_equal_calls(self):
        for first, second, _ in EXAMPLES:
            for function in (productfollows.product_derivation, productfollows.product_gap):
                self.assertEqual(function(first, second), function(first, second))


class Judging(unittest.TestCase):
    def is_one(self, first, second, value):
        found = productfollows.is_product_derivation(first, second, value)
        self.assertIs(type(found), bool)
        self.assertIs(found, is_derivation(first, second, value), (first, second, value))
        return found

    def test_by_hand(self):
        value = (2, ((), (("sum", 1, (0,)),)))
        self.assertTrue(self.is_one(X, SQUARE, value))
        self.assertTrue(self.is_one(X, SQUARE, (3, ((), (("sum", 1, (1,)),)))))
        self.assertTrue(self.is_one(X, SQUARE, (3, ((), (("sum", 5, (5,)),)))))
        self.assertTrue(self.is_one(X, SQUARE, (10 ** 30, ((), (("sum", 1, (10 ** 30 - 2,)),)))))
        self.assertFalse(self.is_one(X, SQUARE, (1, ((), (("sum", 1, (0,)),)))))
        self.assertFalse(self.is_one(X, SQUARE, (2, ((("sum", 1, ()),), (("sum", 1, (0,)),)))))
        self.assertFalse(self.is_one(X, SQUARE, (0, ((), (("sum", 1, (0,)),)))))
        self.assertFalse(self.is_one(X, SQUARE, (True, ((), (("sum", 1, (0,)),)))))
        # With n = 0 the second saying alone is gone along, and each case has rows.
        self.assertTrue(self.is_one(NO, YES, (0, ((("sum", 1, ()),),))))
        self.assertFalse(self.is_one(NO, YES, (0, ((),))))
        self.assertTrue(self.is_one(NO, YES, (1, ((),))))
        self.assertFalse(self.is_one(NO, YES, (1, ((("sum", 1, ()),),))))
        self.assertTrue(self.is_one(NO, NO, (4, ((),))))
        self.assertFalse(self.is_one(YES, NO, (4, ((),))))
        self.assertFalse(self.is_one(YES, NO, (4, ((("sum", 1, ()),),))))

    def test_goals_of_what_is_not_valid(self):
        # The goal is -b, so where b is above 0 there are no rows, whatever their multiples.
        excluded = ("or", X, ("not", X))
        for rows in ((("sum", 1, (1,)),), (("sum", 2, (2,)),), (("sum", 1, (0,)),)):
            self.assertFalse(self.is_one(YES, excluded, (0, ((("sum", 1, ()),), rows))))
            self.assertFalse(self.is_one(NO, excluded, (0, ((("sum", 1, ()),), rows))))
        for rows in ((("sum", 1, (1,)),), (("sum", 1, (0,)),), (("sum", 1, (2,)),)):
            self.assertFalse(self.is_one(YES, excluded, (1, ((("sum", 1, ()),), rows))))

    def test_greater_uses(self):
        # From the least use on, there are derivations with every number.
        for first, second, uses in EXAMPLES:
            if uses is not None and first != second:
                for more in range(1, 4):
                    both = ("and", first, YES)
                    value = productfollows.product_derivation(both, second)
                    self.assertTrue(self.is_one(both, second, (value[0], greater(value[1], more))))
        self.assertTrue(self.is_one(X, X, (3, ((), (("sum", 2, (4,)),)))))
        idle = (("is", "least", 1, (0,)), ("sum", 1, (2,)))
        self.assertTrue(self.is_one(X, ("leads", X, X), (2, ((), idle))))
        self.assertTrue(self.is_one(X, ("leads", X, X), (2, ((), (("split",), ("sum", 1, (0, 2)), ("sum", 1, (5, 2)))))))

    def test_wrong_at_one_place(self):
        for first, second, uses in EXAMPLES:
            value = productfollows.product_derivation(first, second)
            if uses is None or len(str(value)) > 900:
                continue
            wrong = sum(not self.is_one(first, second, other) for other in changed_once(value))
            self.assertGreater(wrong, 5)

    def test_of_others(self):
        pairs = [(first, second) for first, second, uses in EXAMPLES if uses is not None]
        for first, second in pairs:
            for third, fourth in pairs:
                self.is_one(third, fourth, productfollows.product_derivation(first, second))

    def test_other_kinds(self):
        for value in (None, True, 0, "n", (), (0,), (0, None), (0, ()), ((), 0), (1, ((), ())), (1, ((), None)),
                      (1, ((), ("sum", 1, (0,)))), (1, "ab"), (-1, ((), (("sum", 1, (0,)),))), (None, ((), ())),
                      (1, ((), (("sum", 1, (0,)),)), 0), [1, ((), (("sum", 1, (0,)),))]):
            self.assertFalse(self.is_one(X, X, value), value)
        self.assertTrue(self.is_one(X, X, (1, ((), (("sum", 1, (0,)),)))))

    def test_bounds(self):
        functions = (productfollows.product_use, productfollows.product_derivation, productfollows.product_gap,
                     lambda first, second: productfollows.is_product_derivation(first, second, None))
        for function in functions:
            for leaves, most in (([YES, NO], 12), ([X], 12), ([X, Y], 9), ([X, Y, Z], 7)):
                for k in (0, 3, most):
                    function(with_meant_marks(k, leaves), with_meant_marks(most - k, leaves[::-1]))
                    check_raises(self, errors.TooMany, {"what": "marks"}, function, with_meant_marks(k, leaves),
                                 with_meant_marks(most - k + 1, leaves))
            check_raises(self, errors.TooMany, {"what": "unknowns"}, function, with_meant_marks(1, [X, Y]),
                         with_meant_marks(20, [Z, W]))
            for bad in plus_in_each_place():
                check_raises(self, errors.WrongMark, {"mark": "plus"}, function, X, bad)
                check_raises(self, errors.WrongMark, {"mark": "plus"}, function, with_meant_marks(30, [X, Z, W]), bad)
                check_raises(self, errors.WrongMark, {"mark": "plus"}, function, bad, with_meant_marks(30, [X, Z, W]))
