import itertools
import random
import unittest
from fractions import Fraction

from halftruths import errors, productvalid
from halftruths.products import cases_of, product_grade, product_length, product_point
from halftruths.validity import is_valid
from tests.cones import judged, pieces_anew, rays
from tests.helpers import NO, W, X, Y, YES, Z, check_raises, names_of, neg, nots, parts_first, worth
from tests.meanings import (place_of, plus_in_each_place, product_worth, random_meant, some_lengths,
                            with_meant_marks)
from tests.test_products import check_products_first, check_products_kept

NAMES = ("x", "y", "z")
PRELINEAR = ("or", ("leads", X, Y), ("leads", Y, X))
CANCEL = ("leads", ("leads", X, ("times", X, Y)), Y)
DIVIDE = ("same", ("and", X, Y), ("times", X, ("leads", X, Y)))
THREE = ("leads", ("times", ("leads", X, Y), ("leads", Y, Z)), ("leads", X, Z))
VALID = (YES, neg(NO), ("leads", X, X), ("leads", ("times", X, Y), X), PRELINEAR, DIVIDE, THREE,
         ("or", neg(X), neg(neg(X))), ("same", ("times", X, Y), ("times", Y, X)), ("leads", X, neg(neg(X))),
         ("leads", neg(neg(X)), ("leads", ("leads", X, ("times", X, Y)), Y)),
         ("leads", ("times", X, ("or", Y, Z)), ("or", ("times", X, Y), ("times", X, Z))),
         ("leads", ("times", X, X), ("times", X, X)), ("same", ("leads", X, ("leads", Y, Z)),
                                                       ("leads", ("times", X, Y), Z)))
NOT_VALID = (NO, X, neg(X), neg(neg(X)), ("leads", X, ("times", X, X)), CANCEL, ("or", X, neg(X)),
             ("leads", neg(neg(X)), X), ("leads", X, Y), ("same", X, Y), ("and", PRELINEAR, X),
             ("leads", Z, ("and", X, Y)), ("leads", ("and", X, Y), ("times", X, Y)))


def is_rows(saying, value, plain=False):
    """Whether a value is a validity by products, judged anew."""
    cases = list(itertools.product((0, 1), repeat=len(names_of(saying))))
    if type(value) is not tuple or len(value) != len(cases):
        return False
    return all(judged((saying,), case, (-1,), rows, plain) for case, rows in zip(cases, value))


def greater(value, factor):
    return tuple(tuple(row if len(row) == 1 else row[:-2] + (row[-2] * factor, tuple(n * factor for n in row[-1]))
                       for row in rows) for rows in value)


def changed_once(value):
    """What a value becomes if one thing in it, at any place, is another one."""
    if isinstance(value, tuple):
        yield list(value)
        yield value + (0,)
        yield value + (("split",),)
        if value:
            yield value[:-1]
            yield value[1:]
            yield value + value[-1:]
        for k, part in enumerate(value):
            for other in changed_once(part):
                yield value[:k] + (other,) + value[k + 1:]
    elif isinstance(value, str):
        for other in ("split", "is", "sum", "empty", "least", "most", "", None, 1):
            if other != value:
                yield other
    elif value is None:
        yield from (0, 1, "", (), False, (None,))
    else:
        for other in (value + 1, value - 1, -value - 1, True, False, None, str(value), float(value), (value,)):
            yield other


class Pieces(unittest.TestCase):
    def check(self, saying):
        names = names_of(saying)
        for case in cases_of(len(names)):
            anew = pieces_anew((saying,), case)
            told = () if anew[0][1][0] is None else tuple((path, forms[0]) for path, forms in anew)
            self.assertEqual(productvalid.product_pieces(saying, case), told)
            for path, form in told:
                # In the cone the form is the length: tried at sums of its rays.
                places = [k for k, entry in enumerate(case) if entry]
                for times in itertools.product((0, 1, 2), repeat=min(3, len(rays(path, places)))):
                    lengths = [0 if entry else None for entry in case]
                    for n, ray in zip(times, rays(path, places)):
                        for place, number in zip(places, ray):
                            lengths[place] += n * number
                    total = sum(c * (0 if n is None else n) for c, n in zip(form, lengths))
                    self.assertEqual(product_worth(saying, names, place_of(lengths)), Fraction(1, 2 ** total))

    def test_by_hand(self):
        pieces = productvalid.product_pieces
        self.assertEqual(pieces(YES, ()), (((), ()),))
        self.assertEqual(pieces(NO, ()), ())
        self.assertEqual(pieces(X, (0,)), ())
        self.assertEqual(pieces(X, (1,)), (((), (1,)),))
        self.assertEqual(pieces(("leads", X, Y), (1, 1)), ((((1, -1),), (0, 0)), (((-1, 1),), (-1, 1))))
        self.assertEqual(pieces(("leads", X, Y), (1, 0)), ())
        self.assertEqual(pieces(("leads", X, Y), (0, 1)), (((), (0, 0)),))
        self.assertEqual(pieces(("and", X, Y), (1, 1)), ((((1, -1),), (1, 0)), (((-1, 1),), (0, 1))))
        self.assertEqual(pieces(("or", X, Y), (0, 1)), (((), (0, 1)),))
        self.assertEqual(pieces(("times", X, Y), (1, 1)), (((), (1, 1)),))

    def test_at_random(self):
        source = random.Random(141)
        for count, marks, tries in ((0, 5, 5), (1, 8, 15), (2, 6, 15), (3, 5, 10)):
            for _ in range(tries):
                self.check(random_meant(source, marks, NAMES[:count]))
        for saying in VALID + NOT_VALID:
            self.check(saying)

    def test_errors(self):
        check_products_first(self, lambda saying: productvalid.product_pieces(saying, (1, 1, 1, 1)[:4]))
        check_products_kept(lambda saying: productvalid.product_pieces(saying, (1,) * len(names_of(saying))))


class Validity(unittest.TestCase):
    def check(self, saying):
        names = names_of(saying)
        valid = productvalid.is_product_valid(saying)
        found = productvalid.product_validity(saying)
        point = productvalid.product_parting(saying, nots(YES, 2))
        if valid:
            self.assertIsNone(point)
            self.assertTrue(is_rows(saying, found, True), (saying, found))
            self.assertIs(productvalid.is_product_validity(saying, found), True)
            for lengths in some_lengths(len(names), 3):
                self.assertEqual(product_worth(saying, names, place_of(lengths)), 1)
        else:
            self.assertIsNone(found)
            self.check_lengths(point, len(names))
            self.assertNotEqual(product_worth(saying, names, place_of(point)), 1)
        return valid

    def check_lengths(self, lengths, count):
        self.assertIs(type(lengths), tuple)
        self.assertEqual(len(lengths), count)
        for length in lengths:
            self.assertTrue(length is None or (type(length) is int and 0 <= length <= 1000))

    def test_example(self):
        rows = ((("sum", 1, ()),), (("is", "least", 1, (0,)), ("sum", 1, (0,))))
        self.assertTrue(is_rows(("leads", X, X), rows, True))
        self.assertIs(productvalid.is_product_validity(("leads", X, X), rows), True)

    def test_length_nothing_but_not_valid(self):
        # Above 0 all is 1, and at 0 it is not.
        for lengths in some_lengths(2, 4):
            if None not in lengths:
                self.assertEqual(product_length(CANCEL, ("x", "y"), lengths), 0)
        self.assertEqual(product_grade(CANCEL, ("x", "y"), ((0, 1), (1, 2))), (1, 2))
        self.assertEqual(worth(CANCEL, ("x", "y"), [Fraction(1, 4)] * 2), Fraction(1, 2))
        for value in ((1, 1), (1, 2), (2, 7)):
            self.assertEqual(product_grade(neg(neg(X)), ("x",), (value,)), (1, 1))
        self.assertEqual(product_grade(neg(neg(X)), ("x",), ((0, 1),)), (0, 1))
        self.assertFalse(self.check(CANCEL) or self.check(neg(neg(X))))

    def test_valid_from_zero_to_one(self):
        # Without `no`, `not` and `plus`, what is valid has the length 0 at all lengths that are integers.
        source = random.Random(147)
        found = 0
        for _ in range(300):
            saying = random_meant(source, 3, ("x", "y"), 0)
            if "no" not in {word[0] for word in parts_first(saying)} and is_valid(saying):
                found += 1
                for lengths in some_lengths(2, 3):
                    if None not in lengths:
                        self.assertEqual(product_length(saying, ("x", "y"), lengths), 0)
        self.assertGreater(found, 10)

    def test_valid_ones(self):
        for saying in VALID:
            self.assertTrue(self.check(saying), saying)
        for saying in VALID[:6]:
            self.assertTrue(self.check(("or", NO, saying)))

    def test_others(self):
        for saying in NOT_VALID:
            self.assertFalse(self.check(saying), saying)

    def test_at_random(self):
        source = random.Random(142)
        valid = 0
        for count, marks, tries in ((0, 4, 10), (1, 5, 60), (2, 4, 80), (3, 3, 60)):
            for _ in range(tries):
                saying = random_meant(source, marks, NAMES[:count])
                valid += self.check(("leads", saying, random_meant(source, 1, NAMES[:count])))
        self.assertTrue(20 < valid < 190)

    def test_great_ones(self):
        source = random.Random(143)
        for count, marks in ((1, 12), (2, 9), (3, 7)):
            for _ in range(12):
                self.check(random_meant(source, marks, NAMES[:count]))
        twice = ("and", PRELINEAR, ("or", ("leads", ("times", X, X), Y), ("leads", Y, ("times", X, X))))
        self.assertTrue(self.check(twice))

    def test_errors(self):
        for function in (productvalid.is_product_valid, productvalid.product_validity,
                         lambda saying: productvalid.is_product_validity(saying, None)):
            check_products_first(self, function)
            check_products_kept(function)


class Judging(unittest.TestCase):
    def is_validity(self, saying, value):
        found = productvalid.is_product_validity(saying, value)
        self.assertIs(type(found), bool)
        return found

    def test_greater_multiples(self):
        for saying in VALID:
            value = greater(productvalid.product_validity(saying), 7)
            self.assertTrue(is_rows(saying, value))
            self.assertTrue(self.is_validity(saying, value))

    def test_idle_splits(self):
        value = ((("sum", 1, ()),), (("split",), ("sum", 1, (0, 0)), ("sum", 1, (0, 0))))
        self.assertTrue(self.is_validity(("leads", X, X), value))
        # Any multiple of the form (0,) in the path may stand.
        other = ((("sum", 1, ()),), (("split",), ("sum", 3, (5, 0)), ("sum", 1, (9, 0))))
        self.assertTrue(self.is_validity(("leads", X, X), other))
        saying = ("leads", ("times", X, X), X)
        plain = productvalid.product_validity(saying)
        idle = (plain[0], (("split",), ("sum", 1, (0, 0)), ("sum", 1, (0, 1))))
        self.assertTrue(is_rows(saying, idle))
        self.assertTrue(self.is_validity(saying, idle))
        self.assertTrue(self.is_validity(("leads", YES, YES), ((("split",), ("sum", 1, (0,)), ("sum", 1, (0,))),)))

    def test_another_side(self):
        # A question that is 0 can be taken by both sides.
        value = ((("sum", 1, ()),), (("is", "most", 1, (0,)), ("sum", 1, (0,))))
        self.assertTrue(is_rows(("leads", X, X), value))
        self.assertFalse(is_rows(("leads", X, X), value, True))
        self.assertTrue(self.is_validity(("leads", X, X), value))

    def test_empty_rows_are_none(self):
        value = ((("sum", 1, ()),), (("empty", (0,)),))
        self.assertFalse(self.is_validity(("leads", X, X), value))
        self.assertFalse(self.is_validity(YES, ((("empty", ()),),)))
        split = (("split",), ("sum", 1, (0, 0)), ("empty", (1, 0)))
        self.assertFalse(self.is_validity(("leads", X, X), ((("sum", 1, ()),), split)))

    def test_nothing_at_the_end(self):
        for rows in ((), (("sum", 1, ()),), (("empty", ()),)):
            self.assertFalse(self.is_validity(NO, (rows,)))
            self.assertFalse(self.is_validity(X, (rows, (("sum", 1, (0,)),))))
        self.assertFalse(self.is_validity(NO, ()))

    def test_wrong_at_one_place(self):
        for saying in (YES, ("leads", X, X), ("leads", ("times", X, X), X), ("leads", ("times", X, Y), X), PRELINEAR):
            value = productvalid.product_validity(saying)
            wrong = 0
            for other in changed_once(value):
                right = is_rows(saying, other)
                wrong += not right
                self.assertIs(self.is_validity(saying, other), right, (saying, other))
            self.assertGreater(wrong, 30)

    def test_other_kinds(self):
        for value in (None, True, 0, "sum", (), ((),), ((), ()), ("sum", 1, ()), (("sum", 1, ()),), ((), (), ()),
                      ((("sum", True, ()),),), ((("sum", 1, None),),), ((("sum", 1, (0,)),),), (None, None)):
            self.assertFalse(self.is_validity(YES, value), value)
            self.assertFalse(self.is_validity(("leads", X, X), value), value)
        self.assertTrue(self.is_validity(YES, ((("sum", 1, ()),),)))
        self.assertTrue(self.is_validity(YES, ((("sum", 99, ()),),)))
        self.assertFalse(self.is_validity(YES, ((("sum", 0, ()),),)))
        self.assertFalse(self.is_validity(YES, ((("sum", -1, ()),),)))

    def test_certificates_of_other_sayings(self):
        for first in VALID:
            for second in VALID:
                value = productvalid.product_validity(first)
                self.assertIs(self.is_validity(second, value), is_rows(second, value))

    def test_certificates_at_random(self):
        source = random.Random(144)
        for _ in range(120):
            saying = source.choice(VALID)
            tried = tuple(tuple(source.choice((("split",), ("is", source.choice(("least", "most")), 1,
                                                            (source.randrange(2),) * source.randrange(4)),
                                               ("sum", 1, (0,) * source.randrange(4))))
                                for _ in range(source.randrange(1, 4))) for _ in range(2 ** len(names_of(saying))))
            self.assertIs(self.is_validity(saying, tried), is_rows(saying, tried))


class Alike(unittest.TestCase):
    def check(self, first, second):
        names = names_of(first, second)
        alike = productvalid.are_product_alike(first, second)
        lengths = productvalid.product_parting(first, second)
        if alike:
            self.assertIsNone(lengths)
            for tried in some_lengths(len(names), 3):
                place = place_of(tried)
                self.assertEqual(product_worth(first, names, place), product_worth(second, names, place))
        else:
            self.assertEqual(len(lengths), len(names))
            for length in lengths:
                self.assertTrue(length is None or (type(length) is int and 0 <= length <= 1000))
            place = place_of(lengths)
            self.assertNotEqual(product_worth(first, names, place), product_worth(second, names, place))
            point = product_point(lengths)
            self.assertNotEqual(product_grade(first, names, point), product_grade(second, names, point))
        return alike

    def test_by_hand(self):
        for first, second, alike in (
                (X, X, True), (X, Y, False), (YES, NO, False), (YES, neg(NO), True), (X, ("times", X, X), False),
                (("leads", X, NO), neg(X), True), (("times", X, Y), ("times", Y, X), True), (neg(neg(X)), X, False),
                (("and", X, Y), ("times", X, ("leads", X, Y)), True), (("and", X, Y), ("times", X, Y), False),
                (X, ("and", X, ("leads", Y, Y)), True), (("or", X, ("and", Y, Z)), ("and", ("or", X, Y), ("or", X, Z)),
                                                         True)):
            self.assertIs(self.check(first, second), alike, (first, second))

    def test_at_random(self):
        source = random.Random(145)
        alike = 0
        for count, marks, tries in ((0, 2, 10), (1, 3, 80), (2, 3, 60), (3, 2, 40)):
            for _ in range(tries):
                alike += self.check(random_meant(source, source.randrange(marks + 1), NAMES[:count]),
                                    random_meant(source, source.randrange(marks + 1), NAMES[:count]))
        self.assertTrue(15 < alike < 150)

    def test_far_lengths(self):
        # These part only where x, y and z are far from each other in length.
        many = ("times", X, ("times", X, ("times", X, X)))
        self.check(("leads", many, ("times", Y, Y)), ("leads", ("times", X, X), Y))
        self.check(("or", ("leads", many, Y), Z), ("or", Y, neg(neg(Z))))
        source = random.Random(146)
        for _ in range(30):
            self.check(random_meant(source, 4, NAMES, 0), random_meant(source, 3, NAMES, 0))

    def test_bounds(self):
        for function in (productvalid.are_product_alike, productvalid.product_parting):
            for leaves, most in (([YES, NO], 12), ([X], 12), ([X, Y], 9), ([X, Y, Z], 7)):
                for k in (0, 3, most):
                    function(with_meant_marks(k, leaves), with_meant_marks(most - k, leaves[::-1]))
                check_raises(self, errors.TooMany, {"what": "marks"}, function, with_meant_marks(3, leaves),
                             with_meant_marks(most - 2, leaves))
            check_raises(self, errors.TooMany, {"what": "unknowns"}, function, with_meant_marks(1, [X, Y]),
                         with_meant_marks(20, [Z, W]))
            for bad in plus_in_each_place():
                check_raises(self, errors.WrongMark, {"mark": "plus"}, function, X, bad)
                check_raises(self, errors.WrongMark, {"mark": "plus"}, function, bad, with_meant_marks(30, [X, Z, W]))
