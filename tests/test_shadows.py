import random
import unittest
from fractions import Fraction

from halftruths import errors, shadows
from halftruths.follow import least_uses
from halftruths.sayings import is_saying
from tests.helpers import (HALF, NO, ONE, W, X, Y, YES, Z, ZERO, chained, check_raises, grid, names_of, neg, pair,
                           random_saying, with_marks, worth)
from tests.webs import KEPT_AND_PASSED, TWO_WITH_17, corners_anew, web_anew

ALL = ((ZERO, ONE),)


def within(stretches, place):
    return any(Fraction(*low) <= place <= Fraction(*high) for low, high in stretches)


def slice_places(saying, name):
    """The coordinates at the name of the corners of the saying, and what lies half-way between two neighbours.

    Between two such neighbours the saying is 1 somewhere, or everywhere, on all slices or on none.
    """
    at = names_of(saying).index(name)
    ends = sorted({Fraction(*corner[at]) for corner in corners_anew((saying,))} | {Fraction(0), Fraction(1)})
    return ends, [(a + b) / 2 for a, b in zip(ends, ends[1:])]


def slice_worths(saying, name, place):
    """The least and the greatest value of the saying with the name at the place, exactly: at corners of the slice."""
    names = names_of(saying)
    at = names.index(name)
    forms = [(form[0] + form[at + 1] * place,) + form[1:at + 1] + form[at + 2:] for form in web_anew((saying,))]
    others = len(names) - 1
    rows = [form for form in forms if any(form[1:])]
    rows += [tuple(int(k == j + 1) for k in range(others + 1)) for j in range(others)]
    rows += [(-1,) + tuple(int(k == j) for k in range(others)) for j in range(others)]
    found = []
    for corner in zeros(rows, others):
        if all(0 <= number <= 1 for number in corner):
            found.append(worth(saying, names, list(corner[:at]) + [place] + list(corner[at:])))
    return min(found), max(found)


def zeros(rows, count):
    if count == 0:
        return [()]
    if count == 1:
        return [(-row[0] / Fraction(row[1]),) for row in rows]
    found = []
    for k, first in enumerate(rows):
        for second in rows[:k]:
            below = Fraction(first[1] * second[2] - first[2] * second[1])
            if below:
                found.append(((first[2] * second[0] - first[0] * second[2]) / below,
                              (first[0] * second[1] - first[1] * second[0]) / below))
    return found


class Shadows(unittest.TestCase):
    def check(self, saying, name):
        shadow = shadows.shadow_of(saying, name)
        sure = shadows.sure_part_of(saying, name)
        self.check_form(shadow)
        self.check_form(sure)
        ends, middles = slice_places(saying, name)
        for place in ends + middles:
            least, greatest = slice_worths(saying, name, place)
            self.assertIs(within(shadow, place), greatest == 1, (saying, name, place))
            self.assertIs(within(sure, place), least == 1, (saying, name, place))
        for low, high in shadow + sure:
            self.assertIn(Fraction(*low), ends)
            self.assertIn(Fraction(*high), ends)

    def check_form(self, stretches):
        self.assertIs(type(stretches), tuple)
        before = Fraction(-1)
        for low, high in stretches:
            self.assertEqual((low, high), (pair(Fraction(*low)), pair(Fraction(*high))))
            self.assertTrue(before < Fraction(*low) <= Fraction(*high) <= 1)
            before = Fraction(*high)

    def test_by_hand(self):
        for saying, shadow, sure in (
                (X, ((ONE, ONE),), ((ONE, ONE),)), (neg(X), ((ZERO, ZERO),), ((ZERO, ZERO),)),
                (("leads", X, X), ALL, ALL), (("times", X, neg(X)), (), ()),
                (("or", X, neg(X)), ((ZERO, ZERO), (ONE, ONE)), ((ZERO, ZERO), (ONE, ONE))),
                (("plus", X, X), ((HALF, ONE),), ((HALF, ONE),)), (("or", X, Y), ALL, ((ONE, ONE),)),
                (("and", X, Y), ((ONE, ONE),), ()), (("leads", X, Y), ALL, ((ZERO, ZERO),)),
                (("same", X, Y), ALL, ()), (("leads", Y, ("plus", X, X)), ALL, ((HALF, ONE),)),
                (("times", ("plus", X, X), ("leads", ("times", X, X), Y)), ((HALF, ONE),), ((HALF, HALF),))):
            self.assertEqual(shadows.shadow_of(saying, "x"), shadow, saying)
            self.assertEqual(shadows.sure_part_of(saying, "x"), sure, saying)
            self.check(saying, "x")

    def test_names_that_do_not_stand_in_it(self):
        for saying, shadow, sure in ((YES, ALL, ALL), (NO, (), ()), (Y, ALL, ()), (("times", Y, neg(Y)), (), ()),
                                     (("leads", Y, Y), ALL, ALL), (("and", Y, Z), ALL, ())):
            self.assertEqual(shadows.shadow_of(saying, "x"), shadow)
            self.assertEqual(shadows.sure_part_of(saying, "x"), sure)

    def test_at_random(self):
        source = random.Random(45)
        for count, marks, tries in ((1, 10, 12), (2, 5, 14), (3, 4, 8)):
            for _ in range(tries):
                saying = random_saying(source, marks, ("x", "y", "z")[:count])
                for name in names_of(saying):
                    self.check(saying, name)

    def test_sure_single_places(self):
        # Sure at 1/2 alone: (x or y) is at least 1/2 there, and (not x or y), too.
        half = ("and", ("plus", X, ("or", X, Y)), ("plus", neg(X), ("or", neg(X), Y)))
        self.assertEqual(shadows.sure_part_of(half, "x"), ((HALF, HALF),))
        self.check(half, "x")
        self.check(half, "y")

    def test_bounds(self):
        for function in (shadows.shadow_of, shadows.sure_part_of):
            for leaves, most in (([X], 12), ([X, Y], 9), ([X, Y, Z], 7)):
                function(with_marks(most, leaves), "x")
                check_raises(self, errors.TooMany, {"what": "marks"}, function, with_marks(most + 1, leaves), "x")
            check_raises(self, errors.TooMany, {"what": "unknowns"}, function, with_marks(50, [X, Y, Z, W]), "v")
            for kept, _, passed in KEPT_AND_PASSED:
                function(kept, "x")
                function(kept, "w")
                check_raises(self, errors.TooMany, {"what": "questions"}, function, passed, "x")
                check_raises(self, errors.TooMany, {"what": "questions"}, function, passed, "w")


class Stretches(unittest.TestCase):
    def check(self, stretches, name="x"):
        saying = shadows.saying_of_stretches(stretches, name)
        self.assertTrue(is_saying(saying))
        self.assertTrue(set(names_of(saying)) <= {name})
        ends = [Fraction(*end) for stretch in stretches for end in stretch]
        near = [end + step for end in ends for step in (Fraction(1, 97), Fraction(-1, 97)) if 0 <= end + step <= 1]
        for place in ends + near + [numbers[0] for numbers in grid(1, 30)]:
            self.assertIs(worth(saying, (name,), [place]) == 1, within(stretches, place), (stretches, place))

    def test_each_stretch(self):
        ends = sorted({Fraction(p, q) for q in range(1, 6) for p in range(q + 1)})
        for k, low in enumerate(ends):
            for high in ends[k:]:
                self.check(((pair(low), pair(high)),))

    def test_several(self):
        self.check(())
        self.check(ALL, "y2")
        self.check(((ZERO, ZERO), (ONE, ONE)))
        self.check((((1, 5), (1, 4)), ((1, 3), (2, 5)), ((3, 5), (2, 3)), ((3, 4), (4, 5))))
        self.check(((ZERO, (1, 5)), ((2, 5), (2, 5)), (HALF, (3, 5)), ((4, 5), (4, 5))), "abc")
        source = random.Random(46)
        ends = sorted({Fraction(p, q) for q in range(1, 6) for p in range(q + 1)})
        for _ in range(30):
            chosen = sorted(source.sample(ends, 8))[:2 * source.randrange(1, 5)]
            self.check(tuple((pair(a), pair(b)) for a, b in zip(chosen[::2], chosen[1::2])))

    def test_too_many_and_too_great(self):
        told = shadows.saying_of_stretches
        five = tuple(((k, 5), (k, 5)) for k in range(1, 5)) + ((ONE, ONE),)
        self.check(five[1:])
        check_raises(self, errors.TooMany, {"what": "stretches"}, told, five, "x")
        check_raises(self, errors.TooMany, {"what": "stretches"}, told, five[:4] + (((5, 6), ONE),), "x")
        for stretches in ((((1, 6), HALF),), ((HALF, (5, 6)),), (((0, 1), (1, 5)), ((1, 2), (2, 3)), ((6, 7), ONE))):
            check_raises(self, errors.TooGreat, {"what": "denominator"}, told, stretches, "x")


class WordBetween(unittest.TestCase):
    def check(self, premise, conclusion):
        word = shadows.word_between(premise, conclusion)
        if least_uses(premise, conclusion) is None:
            self.assertIsNone(word)
            return None
        self.assertTrue(is_saying(word))
        shared = set(names_of(premise)) & set(names_of(conclusion))
        self.assertTrue(set(names_of(word)) <= shared)
        for name in shared:
            shadow = shadows.shadow_of(premise, name)
            sure = shadows.sure_part_of(conclusion, name)
            for low, high in shadow:
                self.assertTrue(any(Fraction(*a) <= Fraction(*low) and Fraction(*high) <= Fraction(*b)
                                    for a, b in sure))
            for place in [numbers[0] for numbers in grid(1, 60)]:
                self.assertIs(worth(word, (name,), [place]) == 1, within(shadow, place))
        return word

    def test_by_hand(self):
        self.check(("and", X, Y), ("or", X, Z))
        self.check(("and", ("plus", X, X), Y), ("plus", ("plus", X, X), Z))
        self.check(X, ("times", X, X))
        self.assertIsNone(self.check(X, ("and", X, Y)))
        self.assertIsNone(self.check(X, Y))
        self.assertIsNone(shadows.word_between(("plus", X, X), X))

    def test_no_shared_unknown(self):
        self.assertEqual(shadows.word_between(X, YES), YES)
        self.assertEqual(shadows.word_between(X, ("leads", Y, Y)), YES)
        self.assertEqual(shadows.word_between(("times", X, neg(X)), Y), NO)
        self.assertEqual(shadows.word_between(NO, NO), NO)
        self.assertEqual(shadows.word_between(YES, YES), YES)
        self.assertIsNone(shadows.word_between(YES, Y))
        self.assertIsNone(shadows.word_between(Y, NO))

    def test_premise_that_is_never_one(self):
        word = shadows.word_between(("times", X, neg(X)), ("and", X, Y))
        self.assertFalse(any(worth(word, ("x",), numbers) == 1 for numbers in grid(1, 30)))

    def test_at_random(self):
        source = random.Random(47)
        told = 0
        for _ in range(150):
            premise = random_saying(source, 3, ["x", "y"])
            conclusion = random_saying(source, 2, ["x", "z"])
            told += self.check(premise, conclusion) is not None
        self.assertGreater(told, 15)

    def test_errors_in_their_order(self):
        many = errors.TooMany
        word = shadows.word_between
        check_raises(self, many, {"what": "shared"}, word, ("and", X, Y), ("and", Y, X))
        check_raises(self, many, {"what": "shared"}, word, with_marks(30, [X, Y, Z]), with_marks(30, [X, Y, W]))
        check_raises(self, many, {"what": "unknowns"}, word, with_marks(30, [X, Y]), with_marks(30, [W, Z]))
        check_raises(self, many, {"what": "marks"}, word, with_marks(5, [X, Y]), with_marks(5, [X]))
        check_raises(self, many, {"what": "questions"}, word, KEPT_AND_PASSED[0][2], X)
        check_raises(self, many, {"what": "questions"}, word, KEPT_AND_PASSED[1][2], NO)
        word(KEPT_AND_PASSED[0][0], X)
        check_raises(self, many, {"what": "shared"}, word, *TWO_WITH_17)

    def test_shadows_beyond_the_bounds(self):
        always = ("leads", X, X)
        fifth = chained("plus", [X] * 5)
        self.check(fifth, fifth)
        sixth = chained("plus", [X] * 6)
        self.assertEqual(shadows.shadow_of(sixth, "x"), (((1, 6), ONE),))
        check_raises(self, errors.TooGreat, {"what": "denominator"}, shadows.word_between, sixth, sixth)
        self.assertIsNone(shadows.word_between(sixth, X))
        tent = ("same", X, neg(X))
        tents = ("same", tent, neg(tent))
        tents = ("same", tents, neg(tents))
        self.assertEqual(len(shadows.shadow_of(tents, "x")), 4)
        check_raises(self, errors.TooGreat, {"what": "denominator"}, shadows.word_between, tents, always)
        more = ("or", tents, neg(tent))
        self.assertEqual(len(shadows.shadow_of(more, "x")), 6)
        check_raises(self, errors.TooMany, {"what": "stretches"}, shadows.word_between, more, always)
        self.assertIsNone(shadows.word_between(more, X))
