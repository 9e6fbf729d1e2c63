import itertools
import random
import unittest
from fractions import Fraction

from halftruths import carried, errors
from halftruths.grades import chain_value, is_grade
from halftruths.orders import order_value
from halftruths.products import product_length
from halftruths.values import value_at
from tests.chaining import TOP, is_top, step_grades
from tests.helpers import HALF, NO, ONE, W, X, Y, YES, Z, ZERO, check_raises, names_of, neg, nots, occurrences_of, pair
from tests.meanings import plus_in_each_place, random_meant, with_meant_marks

NAMES = ("x", "y", "z")
THIRD = (1, 3)
LEAST = ("in", 0, ZERO)
KINDS = ("sum", "product", "step")


class FromPoint(unittest.TestCase):
    def test_by_hand(self):
        self.assertEqual(carried.from_point(()), ())
        self.assertEqual(carried.from_point((ZERO, HALF, ONE, (99, 100))),
                         (LEAST, ("in", 0, HALF), TOP, ("in", 0, (99, 100))))

    def test_one_sum(self):
        source = random.Random(241)
        for _ in range(200):
            saying = random_meant(source, source.randrange(7), NAMES)
            point = tuple(pair(Fraction(source.randrange(8), 7)) for _ in NAMES)
            value = value_at(saying, NAMES, point)
            self.assertEqual(chain_value(saying, ("sum",), NAMES, carried.from_point(point)),
                             carried.from_point((value,))[0])


class FromOrder(unittest.TestCase):
    def test_by_hand(self):
        self.assertEqual(carried.from_order(()), ())
        self.assertEqual(carried.from_order((ZERO, ONE)), (LEAST, TOP))
        self.assertEqual(carried.from_order((HALF, THIRD, HALF, ONE, (2, 3), ZERO, (3, 7))),
                         (("in", 3, ZERO), ("in", 1, ZERO), ("in", 3, ZERO), TOP, ("in", 4, ZERO), LEAST,
                          ("in", 2, ZERO)))
        # Fractions of great denominators that lie close to each other.
        self.assertEqual(carried.from_order(((10 ** 40, 10 ** 40 + 1), (10 ** 40 - 1, 10 ** 40))),
                         (("in", 2, ZERO), ("in", 1, ZERO)))

    def test_value_by_order(self):
        source = random.Random(242)
        for _ in range(200):
            saying = random_meant(source, source.randrange(7), NAMES)
            point = tuple(pair(Fraction(source.randrange(5), 4)) for _ in NAMES)
            kinds = tuple(source.choice(KINDS) for _ in range(4))
            at = carried.from_order(point)
            value = order_value(saying, NAMES, point)
            told = LEAST if value == ZERO else TOP if value == ONE else at[point.index(value)]
            self.assertEqual(chain_value(saying, kinds, NAMES, at), told)


class FromLengths(unittest.TestCase):
    def test_by_hand(self):
        self.assertEqual(carried.from_lengths((), 1), ())
        self.assertEqual(carried.from_lengths((None, 0, 1, 2, 4), 4),
                         (LEAST, TOP, ("in", 1, (3, 4)), ("in", 1, HALF), ("in", 1, ZERO)))
        self.assertEqual(carried.from_lengths((1,), 1), (("in", 1, ZERO),))
        self.assertEqual(carried.from_lengths((0, None), 1), (TOP, LEAST))

    def test_errors(self):
        for lengths, scale in (((2,), 1), ((None, 0, 10), 9), ((1, 10 ** 9, 0), 10 ** 9 - 1), ((9, 10), 8)):
            check_raises(self, errors.TooGreat, {"what": "length"}, carried.from_lengths, lengths, scale)

    def test_grade_by_products(self):
        # With a scale that nothing falls below, the saying's length is carried over, too.
        source = random.Random(243)
        for _ in range(200):
            saying = random_meant(source, source.randrange(6), NAMES)
            lengths = tuple(source.choice((None, 0, 1, 2, 5)) for _ in NAMES)
            scale = 5 + 5 * sum(occurrences_of(saying, name) for name in NAMES)
            told = product_length(saying, NAMES, lengths)
            self.assertEqual(chain_value(saying, ("sum", "sum"), NAMES, carried.from_lengths(lengths, scale)),
                             carried.from_lengths((told,), scale)[0], (saying, lengths))


class ClosedUp(unittest.TestCase):
    def test_by_hand(self):
        self.assertEqual(carried.closed_up(()), ())
        self.assertEqual(carried.closed_up((TOP, LEAST)), (TOP, LEAST))
        self.assertEqual(carried.closed_up((("in", 5, HALF), TOP, ("in", 0, THIRD), ("in", 2, ZERO), ("in", 5, ZERO))),
                         (("in", 2, HALF), TOP, ("in", 0, THIRD), ("in", 1, ZERO), ("in", 2, ZERO)))
        self.assertEqual(carried.closed_up((("in", 99, HALF),)), (("in", 1, HALF),))
        self.assertEqual(carried.closed_up((("in", 1, HALF), ("in", 2, HALF))), (("in", 1, HALF), ("in", 2, HALF)))

    def test_saying_changes_alike(self):
        source = random.Random(244)
        for _ in range(200):
            saying = random_meant(source, source.randrange(7), NAMES)
            at = tuple(source.choice([TOP] + [("in", k, pair(Fraction(j, 5))) for k in (0, 2, 3, 5) for j in range(5)])
                       for _ in NAMES)
            closed = carried.closed_up(at)
            first = chain_value(saying, ("sum",) * 6, NAMES, at)
            second = chain_value(saying, ("sum",) * 4, NAMES, closed)
            pieces = {grade[1]: other[1] for grade, other in zip(at, closed) if grade != TOP}
            pieces[0] = 0
            self.assertEqual(second, first if first == TOP else ("in", pieces[first[1]], first[2]))


class IntoSums(unittest.TestCase):
    def check(self, saying, kinds, at):
        names = names_of(saying)
        found = carried.into_sums(saying, kinds, at)
        self.assertIs(type(found), tuple)
        self.assertEqual(len(found), len(names))
        self.assertTrue(all(is_grade(grade, len(names) + 1) for grade in found))
        top = is_top(saying, kinds, names, at)
        self.assertIs(is_top(saying, ("sum",) * (len(names) + 1), names, found), top, (saying, kinds, at, found))
        self.assertEqual(found, carried.into_sums(saying, kinds, at))
        return top

    def test_by_hand(self):
        self.assertTrue(self.check(YES, ("sum",), ()))
        self.assertFalse(self.check(NO, ("product",), ()))
        self.assertFalse(self.check(X, ("product",), (("in", 0, HALF),)))
        self.assertTrue(self.check(X, ("product",), (TOP,)))
        self.assertTrue(self.check(neg(X), ("step",), (LEAST,)))
        self.assertTrue(self.check(neg(neg(X)), ("sum", "product"), (("in", 1, ZERO),)))
        self.assertTrue(self.check(neg(neg(X)), ("step",), (("in", 0, HALF),)))
        self.assertFalse(self.check(neg(neg(X)), ("sum",), (("in", 0, HALF),)))
        # y is just x times x in a piece `product`, with a number that is no power of a half.
        square = ("same", Y, ("times", X, X))
        self.assertTrue(self.check(square, ("sum", "product"), (("in", 1, (4, 9)), ("in", 1, (2, 3)))))
        self.assertFalse(self.check(square, ("sum", "product"), (("in", 1, (4, 9)), ("in", 1, (3, 5)))))
        self.assertTrue(self.check(("and", ("same", Y, ("times", X, X)), ("leads", ("leads", X, Y), X)), ("product",),
                                   (("in", 0, (4, 9)), ("in", 0, (2, 3)))))

    def test_at_random(self):
        source = random.Random(245)
        found = {True: 0, False: 0}
        for count, marks in ((0, 4), (1, 6), (2, 6), (3, 5)):
            for _ in range(90):
                saying = random_meant(source, source.randrange(marks + 1), NAMES[:count], 0.08)
                if source.random() < 0.5 and count:
                    saying = ("same", saying, random_meant(source, 0, NAMES[:count]))
                kinds = tuple(source.choice(KINDS) for _ in range(source.randint(1, 6)))
                at = tuple(source.choice(step_grades(1, 4, len(kinds)))[0] for _ in names_of(saying))
                if sum(word_count(saying)) <= 7:
                    found[self.check(saying, kinds, at)] += 1
        self.assertTrue(min(found.values()) > 40, found)

    def test_each_kind_with_each_mark(self):
        for mark in ("times", "leads", "and", "or", "same"):
            for saying in ((mark, X, Y), ("same", (mark, X, Y), X), ("leads", (mark, Y, X), ("times", X, Y))):
                for kind in KINDS:
                    for a, b in itertools.product((TOP, LEAST, ("in", 0, HALF), ("in", 1, ZERO), ("in", 1, (1, 4)),
                                                   ("in", 1, HALF)), repeat=2):
                        self.check(saying, (kind, kind), (a, b))

    def test_errors_in_their_order(self):
        far = ("in", 1, HALF)
        for bad in plus_in_each_place():
            check_raises(self, errors.WrongMark, {"mark": "plus"}, carried.into_sums, bad, ("sum",), (far,) * 2)
            check_raises(self, errors.WrongMark, {"mark": "plus"}, carried.into_sums,
                         with_meant_marks(20, [X, Y, Z, W, bad]), ("sum",), (far,) * 4)
        check_raises(self, errors.TooMany, {"what": "unknowns"}, carried.into_sums,
                     with_meant_marks(20, [X, Y, Z, W]), ("sum",), (far,) * 4)
        for leaves, most in (([YES, NO], 10), ([X], 10), ([X, Y], 10), ([X, Y, Z], 7)):
            at = (LEAST,) * len(names_of(*leaves))
            check_raises(self, errors.TooMany, {"what": "marks"}, carried.into_sums, with_meant_marks(most + 1, leaves),
                         ("sum",), (far,) * len(at))
            check_raises(self, errors.TooMany, {"what": "marks"}, carried.into_sums,
                         nots(with_meant_marks(most, leaves), 1), ("sum",), (far,) * len(at))
            carried.into_sums(with_meant_marks(most, leaves), ("sum",), at)
        check_raises(self, errors.OutOfRange, {"value": far}, carried.into_sums, X, ("sum",), (far,))
        other = ("in", 6, ZERO)
        check_raises(self, errors.OutOfRange, {"value": other}, carried.into_sums, ("and", X, ("or", Y, Z)),
                     ("step",) * 6, (TOP, other, ("in", 7, ZERO)))


def word_count(saying):
    """1 for each mark and `not`."""
    yield saying[0] not in ("unknown", "yes", "no")
    for part in saying[1:]:
        if isinstance(part, tuple):
            yield from word_count(part)
