import itertools
import math
import random
import unittest
from fractions import Fraction

from halftruths import errors, tables
from halftruths.ladders import is_ladder, ladder_at
from halftruths.toldback import settled_heights
from tests.helpers import NO, W, X, Y, YES, Z, chained, check_raises, pair, point_of, random_saying, worth

NAMES = ("x", "y", "z", "w")


def chain_places(chain, count):
    """The points of a chain by the numbers of the table's entries."""
    found = []
    for number in range((chain + 1) ** count):
        place = []
        for _ in range(count):
            place.append(Fraction(number % (chain + 1), chain))
            number //= chain + 1
        found.append(place)
    return found


def denominator(place):
    return math.lcm(*[number.denominator for number in place])


def allowed(chain, count):
    """For each point of a chain the entries that a saying can have there."""
    return [[k for k in range(chain + 1) if denominator(place) % Fraction(k, chain).denominator == 0]
            for place in chain_places(chain, count)]


class TableOf(unittest.TestCase):
    def test_by_hand(self):
        self.assertEqual(tables.table_of(X, 2, ("x",)), (0, 1, 2))
        self.assertEqual(tables.table_of(("plus", X, X), 4, ("x",)), (0, 2, 4, 4, 4))
        self.assertEqual(tables.table_of(X, 1, ("x", "y")), (0, 1, 0, 1))
        self.assertEqual(tables.table_of(X, 1, ("y", "x")), (0, 0, 1, 1))
        self.assertEqual(tables.table_of(("times", X, Y), 2, ("x", "y")), (0, 0, 0, 0, 0, 1, 0, 1, 2))
        self.assertEqual(tables.table_of(YES, 7, ()), (7,))
        self.assertEqual(tables.table_of(NO, 3, ("q",)), (0, 0, 0, 0))

    def test_at_random(self):
        source = random.Random(91)
        for count, chain in ((0, 1), (0, 9), (1, 1), (1, 8), (1, 30), (2, 4), (2, 7), (3, 3), (4, 2)):
            for _ in range(3):
                saying = random_saying(source, 5, NAMES[:count])
                table = tables.table_of(saying, chain, NAMES[:count])
                places = chain_places(chain, count)
                self.assertEqual(table, tuple(worth(saying, NAMES[:count], place) * chain for place in places))
                self.assertTrue(all(type(entry) is int for entry in table))
                self.assertTrue(all(entry in found for entry, found in zip(table, allowed(chain, count))))

    def test_bounds(self):
        many = errors.TooMany
        self.assertEqual(len(tables.table_of(X, 1999, ("x",))), 2000)
        check_raises(self, many, {"what": "points"}, tables.table_of, X, 2000, ("x",))
        self.assertEqual(tables.table_of(YES, 10 ** 30, ()), (10 ** 30,))
        self.assertEqual(len(tables.table_of(X, 43, ("x", "y"))), 1936)
        check_raises(self, many, {"what": "points"}, tables.table_of, X, 44, ("x", "y"))
        self.assertEqual(len(tables.table_of(X, 11, ("x", "y", "z"))), 1728)
        check_raises(self, many, {"what": "points"}, tables.table_of, X, 12, ("x", "y", "z"))
        ten = tuple("abcdefghij")
        self.assertEqual(len(tables.table_of(chained("and", [("unknown", name) for name in ten]), 1, ten)), 1024)
        check_raises(self, many, {"what": "points"}, tables.table_of, YES, 1, ten + ("k",))
        check_raises(self, many, {"what": "points"}, tables.table_of, X, 10 ** 40, ("x",))

    def test_errors_in_their_order(self):
        check_raises(self, errors.UnknownName, {"name": "z"}, tables.table_of, ("or", X, ("and", Z, W)), 0, ("x",))
        check_raises(self, errors.UnknownName, {"name": "x"}, tables.table_of, X, 9999, ("y", "z"))
        check_raises(self, errors.UnknownName, {"name": "x"}, tables.table_of, X, 1, ())
        for chain in (0, -1, -50):
            check_raises(self, errors.OutOfRange, {"value": chain}, tables.table_of, X, chain, ("x",))
            check_raises(self, errors.OutOfRange, {"value": chain}, tables.table_of, YES, chain, NAMES * 20)


class ToldTable(unittest.TestCase):
    def check(self, table, chain, names):
        ladder = tables.told_table(table, chain, names)
        self.assertTrue(is_ladder(ladder))
        self.assertTrue(all(row[1] in names for row in ladder if row[0] == "unknown"))
        for entry, place in zip(table, chain_places(chain, len(names))):
            self.assertEqual(ladder_at(ladder, names, point_of(place)), pair(Fraction(entry, chain)))
        self.assertLessEqual(2 ** len(names) + len(settled_heights(ladder, names)[0]), 300)

    def test_all_small_ones(self):
        for chain, names in ((1, ()), (2, ()), (1, ("x",)), (2, ("b",)), (3, ("x",)), (1, ("y", "x"))):
            for table in itertools.product(*allowed(chain, len(names))):
                self.check(table, chain, names)

    def test_at_random(self):
        source = random.Random(92)
        for chain, names in [(k, ("x",)) for k in range(1, 9)] + [(k, ("y", "x")) for k in range(1, 5)]:
            entries = allowed(chain, len(names))
            for _ in range(4):
                self.check(tuple(source.choice(found) for found in entries), chain, names)
            self.check(tuple(max(found) for found in entries), chain, names)
            self.check(tuple(min(found) for found in entries), chain, names)

    def test_there_and_back(self):
        source = random.Random(93)
        for _ in range(8):
            saying = random_saying(source, 4, ("x", "y"))
            self.check(tables.table_of(saying, 4, ("x", "y")), 4, ("x", "y"))

    def test_errors_in_their_order(self):
        told = tables.told_table
        check_raises(self, errors.TooMany, {"what": "unknowns"}, told, (), 0, ("x", "y", "z"))
        for chain in (0, -3):
            check_raises(self, errors.OutOfRange, {"value": chain}, told, (9,), chain, ("x",))
            check_raises(self, errors.OutOfRange, {"value": chain}, told, (9,), chain, ())
        for chain, names in ((9, ()), (9, ("x",)), (5, ("x", "y")), (100, ("x",))):
            check_raises(self, errors.TooGreat, {"what": "chain"}, told, (9,), chain, names)
            check_raises(self, errors.TooGreat, {"what": "chain"}, told, (), chain, names)
        self.check((8,), 8, ())
        self.check(tuple(range(9)), 8, ("x",))
        self.check((0,) * 25, 4, ("x", "y"))
        for table, chain, names in (((0,), 2, ("x",)), ((0, 1, 2, 2), 2, ("x",)), ((9, 9), 2, ("x",)), ((), 1, ()),
                                    ((5, 5), 1, ()), ((1,) * 8, 2, ("x", "y")), ((0,) * 10, 2, ("x", "y"))):
            check_raises(self, errors.WrongSize, {"size": len(table)}, told, table, chain, names)

    def test_entries_that_no_saying_has(self):
        told = tables.told_table
        for table, chain, names, place in (
                ((0, 1, 3), 2, ("x",), 2), ((-1, 1, 3), 2, ("x",), 0), ((1, 1, 1), 2, ("x",), 0),
                ((0, 1, 1), 2, ("x",), 2), ((0, 1, 1, 3, 4), 4, ("x",), 2), ((1,), 2, (), 0),
                ((0, 0, 0, 1, 0, 0, 0), 6, ("x",), 3), ((0, 0, 0, 0, 5, 0, 0), 6, ("x",), 4),
                ((0, 0, 0, 0, 1, 0, 0, 0, 1), 2, ("x", "y"), 8), ((0, 0, 0, 0, 1, 3, 0, 0, 1), 2, ("x", "y"), 5)):
            check_raises(self, errors.NotAFunction, {"place": place}, told, table, chain, names)
        self.check((0, 0, 0, 0, 1, 1, 0, 2, 2), 2, ("x", "y"))


class TableCount(unittest.TestCase):
    def test_by_hand(self):
        for chain, count, told in ((2, 1, 12), (1, 0, 2), (7, 0, 2), (1, 1, 4), (1, 2, 16), (1, 3, 256), (3, 1, 64)):
            self.assertEqual(tables.table_count(chain, count), told)

    def test_against_the_tables(self):
        for chain, count in ((4, 1), (12, 1), (2, 2), (3, 2), (2, 3), (6, 2)):
            told = 1
            for found in allowed(chain, count):
                told *= len(found)
            self.assertEqual(tables.table_count(chain, count), told)

    def test_tables_of_sayings(self):
        # All tables of one unknown in chain 2 are those of sayings.
        source = random.Random(94)
        seen = {tables.table_of(random_saying(source, source.randrange(5), ["x"]), 2, ("x",)) for _ in range(3000)}
        self.assertEqual(len(seen), tables.table_count(2, 1))

    def test_errors_in_their_order(self):
        for chain in (0, -2):
            for count in range(4):
                check_raises(self, errors.OutOfRange, {"value": chain}, tables.table_count, chain, count)
        self.assertGreater(tables.table_count(1999, 1), 10 ** 6000)
        self.assertGreater(tables.table_count(43, 2), 1)
        for chain, count in ((2000, 1), (44, 2), (12, 3), (10 ** 30, 1)):
            check_raises(self, errors.TooMany, {"what": "points"}, tables.table_count, chain, count)
        self.assertEqual(tables.table_count(10 ** 30, 0), 2)
