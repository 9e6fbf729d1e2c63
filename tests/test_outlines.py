import random
import unittest
from fractions import Fraction

from halftruths import errors, outlines
from halftruths.ladders import is_ladder, ladder_at, ladder_of
from halftruths.sayings import is_saying
from halftruths.toldback import ladder_difference, settled_heights
from tests.helpers import (HALF, NO, ONE, X, Y, YES, ZERO, chained, check_raises, names_of, neg, nots, pair,
                           random_saying, with_marks, worth)

RISING = ((ZERO, ZERO), (ONE, ONE))


def value_at(outline, place):
    for ((a, b), (c, d)), ((e, f), (g, h)) in zip(outline, outline[1:]):
        x, y, u, w = Fraction(a, b), Fraction(c, d), Fraction(e, f), Fraction(g, h)
        if x <= place <= u:
            return y + (w - y) * (place - x) / (u - x)
    raise AssertionError(place)


def flat(count):
    """An outline of so many pairs that is 1 everywhere; at most 46 of them."""
    places = sorted({Fraction(p, q) for q in range(1, 13) for p in range(q + 1)})
    return tuple((pair(place), ONE) for place in places[:count - 1]) + ((ONE, ONE),)


class IsOutline(unittest.TestCase):
    def test_right_ones(self):
        for value in (RISING, ((ZERO, ONE), (ONE, ONE)), ((ZERO, ONE), (ONE, ZERO)),
                      ((ZERO, ZERO), (HALF, ONE), (ONE, ONE)), ((ZERO, ZERO), (HALF, HALF), (ONE, ONE)),
                      ((ZERO, ZERO), ((1, 30), ONE), (ONE, ONE)), flat(45),
                      ((ZERO, ZERO), ((1, 3), ZERO), (HALF, HALF), ((2, 3), ZERO), (ONE, ZERO))):
            self.assertIs(outlines.is_outline(value), True, value)

    def test_wrong_ones(self):
        for value in ((), ((ZERO, ZERO),), ((ONE, ONE),), (RISING[0], RISING[0]), RISING[::-1], RISING + RISING[1:],
                      ((HALF, ZERO), (ONE, HALF)), ((ZERO, ZERO), (HALF, HALF)), ((ZERO, HALF), (ONE, HALF)),
                      ((ZERO, ZERO), (HALF, (1, 3)), (ONE, ONE)), ((ZERO, ZERO), ((1, 3), HALF), (ONE, ONE)),
                      ((ZERO, ZERO), ((2, 3), ONE), (ONE, ONE)), ((ZERO, ZERO), (HALF, ONE), (HALF, ONE), (ONE, ONE)),
                      ((ZERO, ZERO), ((2, 3), ZERO), ((1, 3), ZERO), (ONE, ZERO))):
            self.assertIs(outlines.is_outline(value), False, value)

    def test_other_kinds(self):
        for value in (None, "ab", 5, True, (None, None), (ZERO, ONE), ((ZERO, ZERO, ZERO), (ONE, ONE)), (5, 6),
                      ((ZERO, ZERO), (ONE, (2, 2))), ((ZERO, ZERO), (ONE, (3, 2))), ((ZERO, ZERO), (ONE, "a")),
                      (((False, 1), ZERO), (ONE, ONE)), (((0, 2), ZERO), (ONE, ONE)), ((ZERO, ZERO), (ONE, 1)),
                      ((ZERO, (0, True)), (ONE, ONE)), ((ZERO, ZERO), ((2, 1), ONE)), ((ZERO,), (ONE,))):
            self.assertIs(outlines.is_outline(value), False, value)


class ToldOutline(unittest.TestCase):
    def check(self, outline, name="x"):
        ladder = outlines.told_outline(outline, name)
        self.assertTrue(is_ladder(ladder))
        self.assertTrue(all(row[1] == name for row in ladder if row[0] == "unknown"))
        cuts, _ = settled_heights(ladder, (name,))
        self.assertLessEqual(len(cuts), 298)
        ends = [Fraction(*x) for x, _ in outline]
        for place in ends + [(a + b) / 2 for a, b in zip(ends, ends[1:])] + [Fraction(k, 35) for k in range(36)]:
            self.assertEqual(ladder_at(ladder, (name,), (pair(place),)), pair(value_at(outline, place)))
        return ladder

    def test_by_hand(self):
        for outline in (RISING, ((ZERO, ONE), (ONE, ONE)), ((ZERO, ZERO), (ONE, ZERO)),
                        ((ZERO, ZERO), (HALF, ONE), (ONE, ONE)),
                        ((ZERO, ZERO), ((1, 12), ONE), ((1, 11), ZERO), (ONE, ZERO)),
                        ((ZERO, ZERO), ((2, 5), ZERO), ((5, 12), ONE), ((3, 7), ZERO), (ONE, ZERO)),
                        ((ZERO, ZERO), ((1, 3), (1, 3)), (HALF, HALF), (ONE, ONE))):
            self.assertTrue(outlines.is_outline(outline))
            self.check(outline)

    def test_like_a_saying(self):
        ladder = self.check(((ZERO, ZERO), (HALF, ONE), (ONE, ONE)), "q1")
        self.assertIsNone(ladder_difference(ladder, ladder_of(("plus", ("unknown", "q1"), ("unknown", "q1")))))

    def test_at_random(self):
        source = random.Random(71)
        for count in (2, 3, 10, 40):
            for _ in range(5):
                places = sorted({Fraction(p, q) for q in range(1, 13) for p in range(1, q)})
                chosen = [Fraction(0)] + sorted(source.sample(places, count - 2)) + [Fraction(1)]
                saying = random_saying(source, 12, ["x"])
                names = names_of(saying)
                values = [worth(saying, names, [place] * len(names)) for place in chosen]
                outline = tuple((pair(x), pair(y)) for x, y in zip(chosen, values))
                if outlines.is_outline(outline):
                    self.check(outline)
                if not names:
                    continue
                self.check(outlines.outline_of(saying))

    def test_steep_ones(self):
        # All values at places of a mesh, with denominators that divide theirs, have lines of integers between them.
        source = random.Random(72)
        places = [Fraction(0), Fraction(1)]
        while len(places) < 40:
            gaps = [k for k in range(1, len(places)) if places[k - 1].denominator + places[k].denominator <= 12]
            at = source.choice(gaps)
            low, high = places[at - 1], places[at]
            places.insert(at, Fraction(low.numerator + high.numerator, low.denominator + high.denominator))
        for _ in range(6):
            values = [Fraction(source.randrange(place.denominator + 1), place.denominator) for place in places]
            self.check(tuple((pair(x), pair(y)) for x, y in zip(places, values)))

    def test_sizes(self):
        told = outlines.told_outline
        self.check(flat(40))
        check_raises(self, errors.TooMany, {"what": "pairs"}, told, flat(41), "x")
        check_raises(self, errors.TooMany, {"what": "pairs"}, told, RISING[::-1] * 21, "x")
        check_raises(self, errors.WrongSize, {"size": 1}, told, ((ONE, ONE),), "x")
        check_raises(self, errors.WrongSize, {"size": 0}, told, (), "x")
        self.check(flat(2))

    def test_wrong_at_each_kind_of_place(self):
        half = (HALF, HALF)
        for outline, place in (
                (((HALF, HALF), (ONE, ONE)), 0), (((ONE, ONE), (ONE, ONE)), 0), (((HALF, HALF), (HALF, HALF)), 0),
                ((RISING[0], RISING[0], RISING[1]), 1), ((RISING[0], half, ((1, 3), (1, 3)), RISING[1]), 2),
                ((RISING[0], (HALF, (1, 3)), RISING[1]), 1), ((RISING[0], ((1, 3), HALF), RISING[1]), 1),
                ((RISING[0], ((1, 3), ZERO), RISING[1]), 2), ((RISING[0], half), 1), ((RISING[0], half, half), 2),
                ((RISING[0], half, RISING[1], RISING[1]), 3), ((RISING[0], half, ((2, 3), (2, 3))), 2),
                (((ZERO, HALF), (ONE, HALF)), 1), (((ZERO, HALF), (ONE, ONE)), 1),
                ((RISING[0], (HALF, (1, 3)), ((1, 3), ZERO)), 1)):
            check_raises(self, errors.NotAFunction, {"place": place}, outlines.told_outline, outline, "x")
            self.assertFalse(outlines.is_outline(outline))

    def test_denominators(self):
        told = outlines.told_outline
        self.check(((ZERO, ZERO), ((1, 12), ONE), (ONE, ONE)))
        check_raises(self, errors.TooGreat, {"what": "denominator"}, told,
                     ((ZERO, ZERO), ((1, 13), ONE), (ONE, ONE)), "x")
        check_raises(self, errors.TooGreat, {"what": "denominator"}, told,
                     (RISING[0], ((1, 13), (1, 13)), RISING[1]), "x")
        check_raises(self, errors.NotAFunction, {"place": 2}, told,
                     ((ZERO, ZERO), ((1, 13), ONE), (HALF, HALF)), "x")


class OutlineOf(unittest.TestCase):
    def test_by_hand(self):
        for saying, told in ((YES, ((ZERO, ONE), (ONE, ONE))), (neg(YES), ((ZERO, ZERO), (ONE, ZERO))), (X, RISING),
                             (("plus", Y, Y), ((ZERO, ZERO), (HALF, ONE), (ONE, ONE))),
                             (("leads", X, X), ((ZERO, ONE), (ONE, ONE)))):
            self.assertEqual(outlines.outline_of(saying), told)

    def test_there_and_back(self):
        source = random.Random(73)
        for _ in range(40):
            saying = random_saying(source, source.randrange(12), ["x"])
            outline = outlines.outline_of(saying)
            self.assertTrue(outlines.is_outline(outline))
            for before, at, after in zip(outline, outline[1:], outline[2:]):
                self.assertNotEqual(pair(value_at((before, after), Fraction(*at[0]))), at[1])
            for place in (Fraction(k, 30) for k in range(31)):
                self.assertEqual(value_at(outline, place), worth(saying, ("x",), [place]))
            if max(x[1] for x, _ in outline) <= 12:
                ladder = outlines.told_outline(outline, "x")
                self.assertTrue(is_saying(saying))
                self.assertIsNone(ladder_difference(ladder, ladder_of(saying)))

    def test_bounds(self):
        many = errors.TooMany
        outlines.outline_of(with_marks(12, [X, YES]))
        check_raises(self, many, {"what": "marks"}, outlines.outline_of, with_marks(13, [X, YES]))
        check_raises(self, many, {"what": "marks"}, outlines.outline_of, chained("plus", [NO] * 14))
        check_raises(self, many, {"what": "unknowns"}, outlines.outline_of, ("and", X, Y))
        check_raises(self, many, {"what": "unknowns"}, outlines.outline_of, with_marks(13, [X, Y]))
        self.assertEqual(outlines.outline_of(nots(X, 58)), RISING)
