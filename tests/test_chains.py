import random
import unittest
from math import gcd

from halftruths import chains, errors
from halftruths.semigroups import Sums, sums_pair
from tests.helpers import (HALF, NO, W, X, Y, YES, Z, chained, check_raises, names_of, neg, random_saying, with_marks,
                           worth_at)
from tests.meshing import fails_anew

NAMES = ("x", "y", "z")
GREATEST = 10 ** 9
LIMITS = {0: 30, 1: 40, 2: 12, 3: 6}

# 1 just from 1/2 to 3/4, and just at 1/2 and 1/3.
MIDDLE = ("and", ("plus", X, X), ("plus", neg(X), ("plus", neg(X), ("plus", neg(X), neg(X)))))
HALF_ALONE = ("and", ("plus", X, X), ("plus", neg(X), neg(X)))
THIRD_ALONE = ("and", ("plus", X, ("plus", X, X)), ("leads", ("plus", X, X), neg(X)))


def tents(saying):
    """Up and down twice where the saying goes from 0 to 1."""
    once = ("same", saying, neg(saying))
    return ("same", once, neg(once))


def told(pair, chain):
    return any(chain % number == 0 for number in pair[0]) and chain not in pair[1]


class FailingChains(unittest.TestCase):
    def check_form(self, pair):
        basis, missing = pair
        for part in pair:
            self.assertIs(type(part), tuple)
            self.assertEqual(list(part), sorted(set(part)))
        for number in basis:
            self.assertFalse(any(other != number and number % other == 0 for other in basis))
        for chain in missing:
            self.assertTrue(any(chain % number == 0 for number in basis))

    def check(self, first, second):
        names = names_of(first, second)
        pair = chains.failing_chains(first, second)
        self.check_form(pair)
        limit = LIMITS[len(names)]
        for chain in range(1, limit + 1):
            fails = fails_anew(first, second, names, chain)
            self.assertIs(told(pair, chain), fails, (first, second, chain))
            self.assertIs(chains.fails_in_chain(first, second, chain), fails)
            self.check_point(first, second, chain, fails)
        for chain in (97, 360, 1001, 99991, GREATEST - 1, GREATEST):
            self.assertIs(chains.fails_in_chain(first, second, chain), told(pair, chain))
            self.check_point(first, second, chain, told(pair, chain))
        return pair

    def check_point(self, first, second, chain, fails):
        point = chains.failing_point(first, second, chain)
        if not fails:
            self.assertIsNone(point)
            return
        names = names_of(first, second)
        self.assertIs(type(point), tuple)
        self.assertEqual(len(point), len(names))
        for above, below in point:
            self.assertTrue(0 <= above <= below and gcd(above, below) == 1 and chain % below == 0)
        self.assertEqual(worth_at(first, names, point), 1)
        self.assertLess(worth_at(second, names, point), 1)

    def test_examples(self):
        self.assertEqual(self.check(MIDDLE, NO), ((1,), (1,)))
        both = ("or", HALF_ALONE, THIRD_ALONE)
        self.assertEqual(self.check(both, NO), ((2, 3), ()))
        self.assertEqual(chains.yes_chains(both), ((2, 3), ()))
        self.assertEqual(chains.yes_chains(MIDDLE), ((1,), (1,)))

    def test_by_hand(self):
        for first, second, pair in (
                (X, X, ((), ())), (X, ("times", X, X), ((), ())), (YES, X, ((1,), ())), (YES, NO, ((1,), ())),
                (NO, NO, ((), ())), (NO, X, ((), ())), (X, Y, ((1,), ())), (YES, YES, ((), ())),
                (("plus", X, X), X, ((1,), (1,))), (YES, ("or", X, neg(X)), ((1,), (1,))),
                (HALF_ALONE, NO, ((2,), ())), (HALF_ALONE, Y, ((2,), ())),
                (YES, ("or", ("or", X, neg(X)), HALF_ALONE), ((1,), (1, 2)))):
            self.assertEqual(self.check(first, second), pair, (first, second))

    def test_at_random(self):
        source = random.Random(51)
        seen = set()
        for count, marks, tries in ((1, 5, 30), (2, 3, 12), (3, 2, 6)):
            for _ in range(tries):
                first = random_saying(source, marks, NAMES[:count])
                second = random_saying(source, source.randrange(2), NAMES[:count])
                seen.add(self.check(first, second))
        self.assertGreater(len(seen), 3)

    def test_narrow_places(self):
        # 1 from 1/5 to 1/4; from 2/5 to 3/7.
        fifth = ("and", chained("plus", [X] * 5), chained("plus", [neg(X)] * 4 + [NO]))
        narrow = ("and", chained("plus", [X] * 5), ("leads", ("plus", X, ("plus", X, X)), neg(X)))
        self.assertEqual(self.check(narrow, NO), ((1,), (1, 2, 3, 6, 7, 11)))
        self.check(fifth, NO)
        self.check(fifth, X)

    def test_second_must_fail_at_a_node_that_is_taken(self):
        # 1 from 1/5 to 1/4, below 1 at 1/4 or nearer to it alone.
        narrow = ("and", chained("plus", [X] * 5), ("leads", ("plus", X, ("plus", X, X)), neg(X)))
        pair = self.check(narrow, ("plus", neg(X), X))
        self.assertEqual(pair, ((), ()))
        self.assertEqual(self.check(narrow, ("plus", X, ("plus", X, X)))[1][:3], (1, 2, 3))

    def test_two_names(self):
        square = ("and", ("and", ("plus", X, X), ("plus", neg(X), neg(X))), ("leads", ("plus", Y, Y), NO))
        self.assertEqual(self.check(square, NO), ((2,), ()))
        line = ("and", ("same", ("plus", X, X), neg(Y)), ("leads", ("times", X, X), Y))
        self.check(line, NO)
        self.check(line, ("leads", Y, X))

    def test_chains_out_of_range(self):
        big = with_marks(40, [X, Y, Z, W])
        for function in (chains.fails_in_chain, chains.failing_point):
            for chain in (0, -1, GREATEST + 1, -GREATEST):
                check_raises(self, errors.OutOfRange, {"value": chain}, function, X, NO, chain)
                check_raises(self, errors.OutOfRange, {"value": chain}, function, big, big, chain)
            function(X, NO, 1)
            function(X, NO, GREATEST)
        self.assertEqual(chains.failing_point(YES, NO, GREATEST), ())
        self.assertIs(chains.fails_in_chain(HALF_ALONE, NO, GREATEST), True)
        self.assertIs(chains.fails_in_chain(HALF_ALONE, NO, GREATEST - 1), False)
        self.assertEqual(chains.failing_point(HALF_ALONE, NO, 4), (HALF,))

    def test_bounds(self):
        pairs = (chains.failing_chains, lambda a, b: chains.fails_in_chain(a, b, 7),
                 lambda a, b: chains.failing_point(a, b, 7))
        many = errors.TooMany
        for function in pairs:
            for leaves, most in (([YES, NO], 12), ([X], 12), ([X, Y], 8), ([X, Y, Z], 4)):
                function(with_marks(most - 2, leaves), with_marks(2, leaves))
                check_raises(self, many, {"what": "marks"}, function, with_marks(most - 2, leaves),
                             with_marks(3, leaves))
            check_raises(self, many, {"what": "unknowns"}, function, with_marks(9, [X, Y]), with_marks(9, [Z, W]))
        for function in (chains.valid_chains, chains.yes_chains):
            for leaves, most in (([YES, NO], 12), ([X], 12), ([X, Y], 8), ([X, Y, Z], 4)):
                function(with_marks(most, leaves))
                check_raises(self, many, {"what": "marks"}, function, with_marks(most + 1, leaves))
            check_raises(self, many, {"what": "unknowns"}, function, with_marks(9, [X, Y, Z, W]))


    def test_too_many_nodes(self):
        waves = ("same", ("same", tents(X), neg(tents(Y))), X)
        many = errors.TooMany
        for function, passed in (
                (chains.failing_chains, (waves, YES)), (chains.failing_chains, (YES, waves)),
                (chains.valid_chains, (waves,)),
                (chains.yes_chains, (neg(waves),)), (chains.fails_in_chain, (waves, YES, 3)),
                (chains.failing_point, (waves, YES, 3))):
            check_raises(self, many, {"what": "nodes"}, function, *passed)
        check_raises(self, many, {"what": "marks"}, chains.valid_chains, ("or", waves, X))
        check_raises(self, errors.OutOfRange, {"value": 0}, chains.failing_point, waves, YES, 0)
        self.check(waves[1], X)


class OneSaying(unittest.TestCase):
    def test_valid_chains(self):
        for saying, valid in ((YES, None), (NO, ()), (X, ()), (("leads", X, X), None), (("or", X, neg(X)), (1,)),
                              (("or", ("or", X, neg(X)), HALF_ALONE), (1, 2)),
                              (("or", ("or", X, neg(X)), ("or", Y, neg(Y))), (1,))):
            self.assertEqual(chains.valid_chains(saying), valid)

    def test_valid_chains_at_random(self):
        source = random.Random(52)
        seen = set()
        for _ in range(60):
            saying = ("or", ("or", X, neg(X)), random_saying(source, 6, ["x"]))
            valid = chains.valid_chains(saying)
            seen.add(valid)
            for chain in range(1, 41):
                self.assertIs(valid is None or chain in valid, not fails_anew(YES, saying, ("x",), chain))
            for chain in valid or ():
                self.assertTrue(all(part in valid for part in range(1, chain) if chain % part == 0))
        self.assertGreater(len(seen), 2)

    def test_yes_chains_at_random(self):
        source = random.Random(53)
        for count, marks in ((0, 3), (1, 8), (2, 4)):
            for _ in range(8):
                saying = random_saying(source, marks, NAMES[:count])
                pair = chains.yes_chains(saying)
                for chain in range(1, LIMITS[count] + 1):
                    self.assertIs(told(pair, chain), fails_anew(saying, NO, names_of(saying), chain))


class SumsOfIntegers(unittest.TestCase):
    def sums_anew(self, numbers, most):
        found = {numbers[0]}
        while True:
            more = found | {n + step for n in found for step in numbers if n + step <= most}
            if more == found:
                return found
            found = more

    def test_sums(self):
        for numbers in ((1,), (4,), (3, 5), (5, 3), (6, 10, 15), (15, 6, 10), (4, 6), (7, 11, 13), (9, 6, 12), (8, 1)):
            sums = Sums(numbers)
            anew = self.sums_anew(numbers, 150)
            for number in range(1, 151):
                self.assertIs(sums.has(number), number in anew, (numbers, number))
                if number in anew:
                    times = sums.times_in(number)
                    self.assertGreaterEqual(times[numbers[0]], 1)
                    self.assertEqual(sum(step * count for step, count in times.items()), number)
            common = gcd(*numbers)
            self.assertTrue(all(number in anew for number in range(sums.full_from(), 151) if number % common == 0))

    def test_pairs(self):
        self.assertEqual(sums_pair([]), ((), ()))
        self.assertEqual(sums_pair([(4, 6), (9,)]), ((2, 9), (2, 6)))
        self.assertEqual(sums_pair([(6, 4), (2,)]), ((2,), ()))
        self.assertEqual(sums_pair([(3, 5), (5, 3), (2,)]), ((1,), (1, 7)))
