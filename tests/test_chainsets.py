import random
import unittest

from halftruths import chainsets, errors
from halftruths.chains import valid_chains, yes_chains
from halftruths.ladders import is_ladder, ladder_at, ladder_of
from halftruths.tables import told_table
from halftruths.toldback import settled_heights, told_heights
from tests.helpers import NO, ONE, X, Y, YES, check_raises, neg, point_of, random_saying
from tests.test_tables import chain_places

SETS = ((), (1,), (2,), (3,), (12,), (2, 3), (4, 6), (6, 4), (5, 7, 11), (12, 12), (1, 2, 12), (8, 9, 10, 11, 12),
        tuple(range(1, 13)), (12,) * 12, (7, 1, 7, 5))


def divisors(numbers):
    return tuple(k for k in range(1, 13) if any(number % k == 0 for number in numbers))


def is_one_at(ladder, chain):
    return [ladder_at(ladder, ("x",), point_of(place)) == ONE for place in chain_places(chain, 1)]


class Told(unittest.TestCase):
    def check_ladder(self, ladder, name):
        self.assertTrue(is_ladder(ladder))
        self.assertTrue(all(row[1] == name for row in ladder if row[0] == "unknown"))
        self.assertLessEqual(len(settled_heights(ladder, (name,))[0]), 298)

    def test_told_chains(self):
        for numbers in SETS:
            ladder = chainsets.told_chains(numbers, "x")
            self.check_ladder(ladder, "x")
            self.assertEqual(chainsets.ladder_valid_chains(ladder), divisors(numbers))
            for chain in range(1, 30):
                self.assertIs(all(is_one_at(ladder, chain)), chain in divisors(numbers), (numbers, chain))

    def test_told_multiples(self):
        for numbers in SETS:
            ladder = chainsets.told_multiples(numbers, "x")
            self.check_ladder(ladder, "x")
            for chain in range(1, 40):
                self.assertIs(any(is_one_at(ladder, chain)), any(chain % number == 0 for number in numbers))
            basis, missing = chainsets.ladder_yes_chains(ladder)
            self.assertEqual(missing, ())
            self.assertEqual(basis, tuple(k for k in sorted(set(numbers))
                                          if not any(k != j and k % j == 0 for j in numbers)))

    def test_at_random(self):
        source = random.Random(95)
        for _ in range(12):
            numbers = tuple(source.randrange(1, 13) for _ in range(source.randrange(1, 13)))
            ladder = chainsets.told_chains(numbers, "a1")
            self.check_ladder(ladder, "a1")
            self.assertEqual(chainsets.ladder_valid_chains(ladder), divisors(numbers))
            ladder = chainsets.told_multiples(numbers, "a1")
            self.check_ladder(ladder, "a1")
            self.assertEqual(chainsets.ladder_yes_chains(ladder)[1], ())

    def test_out_of_range(self):
        for function in (chainsets.told_chains, chainsets.told_multiples):
            for numbers, wrong in (((0,), 0), ((13,), 13), ((12, 1, 13, 0), 13), ((3, 0, 13), 0), ((-5, 99), -5)):
                check_raises(self, errors.OutOfRange, {"value": wrong}, function, numbers, "x")
            function((1, 12), "x")


class Chains(unittest.TestCase):
    def test_as_for_sayings(self):
        source = random.Random(96)
        for count, marks in ((0, 3), (1, 7), (2, 4), (3, 3)):
            for _ in range(8):
                saying = random_saying(source, marks, ("x", "y", "z")[:count])
                ladder = ladder_of(saying)
                self.assertEqual(chainsets.ladder_valid_chains(ladder), valid_chains(saying))
                self.assertEqual(chainsets.ladder_yes_chains(ladder), yes_chains(saying))

    def test_by_hand(self):
        for saying, valid, pair in ((YES, None, ((1,), ())), (NO, (), ((), ())), (X, (), ((1,), ())),
                                    (("leads", X, X), None, ((1,), ())), (("or", X, neg(X)), (1,), ((1,), ())),
                                    (("and", Y, neg(Y)), (), ((), ()))):
            self.assertEqual(chainsets.ladder_valid_chains(ladder_of(saying)), valid)
            self.assertEqual(chainsets.ladder_yes_chains(ladder_of(saying)), pair)

    def test_beyond_the_bounds_of_sayings(self):
        # 1 at 1/2 and between two places with the denominators 8 and 11, told by its heights.
        cuts = ((0, 1), (1, 2), (2, 3), (3, 4), (3, 5))
        ladder = told_heights(("x",), cuts, (0, 0, 2, 0, 0, 8, 11))
        pair = chainsets.ladder_yes_chains(ladder)
        for chain in range(1, 90):
            told = any(chain % number == 0 for number in pair[0]) and chain not in pair[1]
            self.assertIs(told, any(is_one_at(ladder, chain)), chain)

    def test_four_unknowns(self):
        ladder = tuple(("unknown", name) for name in ("x", "y", "z", "w")) + (("yes",),)
        for function in (chainsets.ladder_valid_chains, chainsets.ladder_yes_chains):
            check_raises(self, errors.TooMany, {"what": "unknowns"}, function, ladder)
            function(ladder[:3])
            function(ladder[1:])

    def test_too_many_nodes(self):
        rows = [("unknown", "x")]
        for k in range(8):
            rows += [("not", 2 * k), ("same", 2 * k, 2 * k + 1)]
        four = tuple(rows) + tuple(("unknown", name) for name in ("y", "z", "w"))
        for function in (chainsets.ladder_valid_chains, chainsets.ladder_yes_chains):
            check_raises(self, errors.TooMany, {"what": "nodes"}, function, tuple(rows))
            check_raises(self, errors.TooMany, {"what": "nodes"}, function, tuple(rows) + (("yes",),))
            check_raises(self, errors.TooMany, {"what": "unknowns"}, function, four)
            function(tuple(rows[:9]))

    def test_two_names(self):
        source = random.Random(97)
        for _ in range(4):
            table = tuple(2 * source.randrange(2) for _ in range(9))
            ladder = told_table(table, 2, ("x", "y"))
            pair = chainsets.ladder_yes_chains(ladder)
            for chain in range(1, 9):
                told = any(chain % number == 0 for number in pair[0]) and chain not in pair[1]
                found = any(ladder_at(ladder, ("x", "y"), point_of(place)) == ONE for place in chain_places(chain, 2))
                self.assertIs(told, found)
