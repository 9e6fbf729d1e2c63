import random
import time
import unittest
from fractions import Fraction

from halftruths import breaks, errors
from halftruths.likeness import are_alike
from tests.helpers import (HALF, MARKS, NO, ONE, X, Y, YES, ZERO, chained, check_raises, names_of, neg, nots, pair,
                           random_saying, with_marks, worth)


def nested(mark, count):
    """(x mark (x mark .. x)), in which x stands so many times."""
    saying = X
    for _ in range(count - 1):
        saying = (mark, X, saying)
    return saying


def times_in(saying):
    if saying[0] == "unknown":
        return 1
    return sum(times_in(part) for part in saying[1:] if isinstance(part, tuple))


def breaks_anew(saying):
    """From all places whose denominators are at most how often the unknown occurs, and those half-way between them."""
    names = names_of(saying)
    most = max(1, times_in(saying))
    places = sorted({Fraction(p, q) for q in range(1, most + 1) for p in range(q + 1)})
    values = [worth(saying, names, [place] * len(names)) for place in places]
    for k, (low, high) in enumerate(zip(places, places[1:])):
        middle = worth(saying, names, [(low + high) / 2] * len(names))
        assert 2 * middle == values[k] + values[k + 1]
    found = []
    for k, place in enumerate(places):
        inner = 0 < k < len(places) - 1
        if not inner or ((values[k] - values[k - 1]) / (place - places[k - 1])
                         != (values[k + 1] - values[k]) / (places[k + 1] - place)):
            found.append((pair(place), pair(values[k])))
    return tuple(found)


class Breaks(unittest.TestCase):
    def test_by_hand(self):
        flat = ((ZERO, ONE), (ONE, ONE))
        for saying, told in (
                (YES, flat), (NO, ((ZERO, ZERO), (ONE, ZERO))), (("or", YES, NO), flat),
                (X, ((ZERO, ZERO), (ONE, ONE))), (neg(X), ((ZERO, ONE), (ONE, ZERO))), (("leads", X, X), flat),
                (("plus", X, X), ((ZERO, ZERO), (HALF, ONE), (ONE, ONE))),
                (("or", X, neg(X)), ((ZERO, ONE), (HALF, HALF), (ONE, ONE))),
                (("times", X, ("times", X, X)), ((ZERO, ZERO), ((2, 3), ZERO), (ONE, ONE))),
                (("same", X, ("plus", X, X)), ((ZERO, ONE), (HALF, HALF), (ONE, ONE)))):
            self.assertEqual(breaks.breaks_of(saying), told)

    def test_other_names(self):
        self.assertEqual(breaks.breaks_of(("plus", Y, Y)), breaks.breaks_of(("plus", X, X)))

    def test_at_random(self):
        source = random.Random(24)
        for _ in range(60):
            saying = random_saying(source, source.randrange(14), ["x"])
            self.assertEqual(breaks.breaks_of(saying), breaks_anew(saying))

    def test_beyond_the_bound_of_other_functions(self):
        source = random.Random(25)
        for _ in range(6):
            saying = random_saying(source, 38, ["x"])
            self.assertEqual(breaks.breaks_of(saying), breaks_anew(saying))
        tent = X
        for _ in range(5):
            tent = ("same", tent, neg(tent))
        self.assertEqual(breaks.breaks_of(tent), breaks_anew(tent))
        self.assertEqual(len(breaks.breaks_of(tent)), 33)
        self.assertEqual(breaks.breaks_of(with_marks(59, [X, YES, YES])), ((ZERO, ZERO), (ONE, ONE)))

    def test_no_unknowns(self):
        saying = chained("plus", [NO] * 50)
        self.assertEqual(breaks.breaks_of(saying), ((ZERO, ZERO), (ONE, ZERO)))
        self.assertEqual(breaks.breaks_of(nots(saying, 9)), ((ZERO, ONE), (ONE, ONE)))

    def test_occurrences(self):
        forty = chained("plus", [X] * 40)
        self.assertEqual(breaks.breaks_of(forty), ((ZERO, ZERO), ((1, 40), ONE), (ONE, ONE)))
        check_raises(self, errors.TooMany, {"what": "occurrences"}, breaks.breaks_of, ("and", forty, X))
        check_raises(self, errors.TooMany, {"what": "occurrences"}, breaks.breaks_of, chained("and", [X] * 60))

    def test_many_occurrences_take_little_time(self):
        told = {"times": ((ZERO, ZERO), ((39, 40), ZERO), (ONE, ONE)), "same": ((ZERO, ONE), (ONE, ONE)),
                "plus": ((ZERO, ZERO), ((1, 40), ONE), (ONE, ONE))}
        for mark, expected in told.items():
            saying = nested(mark, 40)
            start = time.perf_counter()
            for _ in range(100):
                self.assertEqual(breaks.breaks_of(saying), expected)
            self.assertLess(time.perf_counter() - start, 2)

    def test_many_breaks_take_little_time(self):
        saying = X
        for _ in range(5):
            saying = ("same", saying, neg(saying))
        for count in range(8):
            saying = ("same", saying, X) if count % 2 else ("same", X, neg(saying))
        for count in range(36):
            saying = ("same", YES, saying) if count % 2 else ("same", saying, NO)
        start = time.perf_counter()
        for _ in range(20):
            found = breaks.breaks_of(saying)
        self.assertLess(time.perf_counter() - start, 2)
        self.assertEqual(len(found), 131)
        self.assertEqual(found, breaks_anew(saying))

    def test_beside_what_is_the_same_number_everywhere(self):
        source = random.Random(27)
        flat = (YES, NO, neg(YES), ("or", X, YES), ("times", X, neg(X)), ("and", NO, NO), ("leads", X, X))
        for mark in MARKS:
            for part in flat:
                saying = random_saying(source, 3, ["x"])
                for whole in ((mark, part, saying), (mark, saying, part), (mark, part, part), (mark, neg(part), X)):
                    self.assertEqual(breaks.breaks_of(whole), breaks_anew(whole))

    def test_unknowns(self):
        for saying in (("and", X, Y), chained("and", [X, Y] * 30)):
            check_raises(self, errors.TooMany, {"what": "unknowns"}, breaks.breaks_of, saying)

    def test_equal_breaks(self):
        source = random.Random(26)
        seen = set()
        for _ in range(300):
            first = random_saying(source, 2, ["x"])
            second = random_saying(source, 2, ["x"])
            if names_of(first) == names_of(second) == ("x",):
                alike = are_alike(first, second)
                seen.add(alike)
                self.assertIs(breaks.breaks_of(first) == breaks.breaks_of(second), alike)
        self.assertEqual(seen, {True, False})
