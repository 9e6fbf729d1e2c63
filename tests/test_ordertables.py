import random
import unittest

from halftruths import errors, ordertables
from halftruths.orders import order_alike, order_types
from halftruths.sayings import depth_of, is_saying, words_in
from tests.helpers import NO, X, Y, YES, Z, check_raises, neg
from tests.meanings import has_plus, order_worth, random_meant
from tests.test_orders import FIVE, FOUR, all_kinds, check_meant_first, names_in_order, place_of_kind
from tests.test_orderwords import TABLES

NAMES = ("x", "y", "z")


def table_anew(saying, names):
    return tuple(int(order_worth(saying, names, place_of_kind(kind)) * (len(names) + 1))
                 for kind in all_kinds(len(names)))


def distinct_in(count, steps):
    """How many tables differ in the chain, where just the types with fewer blocks than steps have points."""
    kinds = [kind for kind in all_kinds(count) if len({level for level in kind if 0 < level <= count}) < steps]
    return len({tuple(entries[kind] for kind in kinds) for entries in TABLES[count]})


class Tables(unittest.TestCase):
    def test_by_hand(self):
        for saying, table in ((YES, (1,)), (NO, (0,)), (X, (0, 1, 2)), (neg(X), (2, 0, 0)), (neg(neg(X)), (0, 2, 2)),
                              (("or", X, neg(X)), (2, 1, 2)), (("leads", X, X), (2, 2, 2)),
                              (("and", X, Y), (0, 0, 0, 0, 1, 1, 1, 1, 0, 1, 3))):
            self.assertEqual(ordertables.order_table(saying), table)

    def test_at_random(self):
        source = random.Random(121)
        for count in range(5):
            for _ in range(12):
                saying = random_meant(source, 6, ("x", "y", "z", "w")[:count])
                names = names_in_order(saying)
                table = ordertables.order_table(saying)
                self.assertEqual(table, table_anew(saying, names))
                self.assertIs(type(table), tuple)
                self.assertTrue(ordertables.is_order_table(len(names), table))

    def test_alike(self):
        source = random.Random(122)
        for _ in range(150):
            first = ("and", ("or", X, YES), random_meant(source, 2, ("x",)))
            second = ("and", ("or", X, YES), random_meant(source, 2, ("x",)))
            self.assertIs(ordertables.order_table(first) == ordertables.order_table(second),
                          order_alike(first, second))

    def test_errors(self):
        check_meant_first(self, ordertables.order_table)
        self.assertEqual(len(ordertables.order_table(FOUR)), 299)


class IsTable(unittest.TestCase):
    def test_all_small_ones(self):
        for count in (0, 1):
            kinds = all_kinds(count)
            right = {tuple(entries[kind] for kind in kinds) for entries in TABLES[count]}
            tried = [()]
            for _ in kinds:
                tried = [table + (entry,) for table in tried for entry in range(-1, count + 3)]
            for table in tried:
                self.assertIs(ordertables.is_order_table(count, table), table in right, table)

    def test_two_unknowns(self):
        kinds = all_kinds(2)
        right = {tuple(entries[kind] for kind in kinds) for entries in TABLES[2]}
        self.assertEqual(len(right), 342)
        source = random.Random(123)
        for table in sorted(right):
            self.assertTrue(ordertables.is_order_table(2, table))
            place = source.randrange(len(table))
            changed = table[:place] + (source.randrange(-1, 5),) + table[place + 1:]
            self.assertIs(ordertables.is_order_table(2, changed), changed in right)

    def test_sizes(self):
        for count, size in enumerate((1, 3, 11, 51, 299)):
            self.assertTrue(ordertables.is_order_table(count, (0,) * size))
            self.assertTrue(ordertables.is_order_table(count, (count + 1,) * size))
            self.assertFalse(ordertables.is_order_table(count, (0,) * (size + 1)))
            self.assertFalse(ordertables.is_order_table(count, (0,) * (size - 1)))
            self.assertFalse(ordertables.is_order_table(count, (1,) * size) if count else False)


class Told(unittest.TestCase):
    def check(self, names, table):
        saying = ordertables.order_told(names, table)
        self.assertTrue(is_saying(saying))
        self.assertFalse(has_plus(saying))
        self.assertTrue(set(names_in_order(saying)) <= set(names))
        self.assertEqual(table_anew(saying, names), table)

    def test_all_tables(self):
        for count in (0, 1, 2):
            kinds = all_kinds(count)
            for entries in TABLES[count]:
                self.check(("y", "x")[:count], tuple(entries[kind] for kind in kinds))

    def test_three_names(self):
        source = random.Random(124)
        for _ in range(40):
            number = source.randrange(ordertables.order_count(3))
            self.check(("z", "x", "y"), ordertables.order_numbered(3, number))
        for _ in range(20):
            saying = ("and", random_meant(source, 7, NAMES), ("or", YES, ("and", X, ("and", Y, Z))))
            self.check(NAMES, table_anew(saying, NAMES))
        self.check(NAMES, (0,) * 51)
        self.check(NAMES, (4,) * 51)

    def test_greatest(self):
        # 1 but where no unknown is 1: there a table has the level of the highest block.
        kinds = order_types(3)
        self.check(NAMES, tuple(4 if 4 in kind else max(kind) for kind in kinds))
        saying = ordertables.order_told(NAMES, tuple(4 if 4 in kind else max(kind) for kind in kinds))
        self.assertLessEqual(words_in(saying), 1000)
        self.assertLessEqual(depth_of(saying), 60)

    def test_errors_in_their_order(self):
        for function, passed, three in ((ordertables.order_told, lambda count: NAMES[:count], True),
                                        (ordertables.order_number, lambda count: count, False)):
            if three:
                check_raises(self, errors.TooMany, {"what": "unknowns"}, function, ("x", "y", "z", "w"), (9,))
                check_raises(self, errors.TooMany, {"what": "unknowns"}, function, ("x", "y", "z", "w"), (0,) * 299)
            for count, size in enumerate((1, 3, 11, 51)):
                for wrong in (size - 1, size + 1, 0):
                    if wrong != size:
                        check_raises(self, errors.WrongSize, {"size": wrong}, function, passed(count), (9,) * wrong)
            for count, table, entry in ((0, (2,), 2), (0, (-1,), -1), (1, (0, 3, -1), 3), (1, (1, 1, 2), 1),
                                        (1, (2, 1, 1), 1), (1, (2, 0, 5), 5), (2, (0, 2, 0) + (0,) * 8, 2),
                                        (2, (3,) * 4 + (2, 9) + (3,) * 5, 2), (2, (0,) * 10 + (-7,), -7)):
                check_raises(self, errors.OutOfRange, {"value": entry}, function, passed(count), table)
            for count, table, kind in ((1, (0, 1, 0), (1,)), (1, (0, 2, 0), (1,)), (1, (0, 0, 2), (1,)),
                                       (2, (0,) * 5 + (1,) + (0,) * 5, (1, 2)),
                                       (2, (3,) * 5 + (2,) + (1,) + (3,) * 4, (1, 2)),
                                       (2, (0, 1, 0, 0, 1, 1, 1, 1, 0, 1, 3), (0, 1))):
                check_raises(self, errors.NotAFunction, {"place": kind}, function, passed(count), table)
                self.assertFalse(ordertables.is_order_table(count, table))
            # A wrong entry goes before one that does not fit, wherever they stand.
            check_raises(self, errors.OutOfRange, {"value": 5}, function, passed(1), (0, 2, 5))


class Numbers(unittest.TestCase):
    def test_counts(self):
        self.assertEqual([ordertables.order_count(count) for count in range(4)], [2, 6, 342, 137186159382])
        for count in range(3):
            self.assertEqual(ordertables.order_count(count), len(TABLES[count]))
        self.assertGreater(ordertables.order_count(5), ordertables.order_count(4))
        self.assertGreater(ordertables.order_count(4), 10 ** 50)

    def test_counts_in_chains(self):
        for count in range(3):
            for steps in range(1, 6):
                self.assertEqual(ordertables.order_count_in(count, steps), distinct_in(count, steps))
        for count in range(6):
            self.assertEqual(ordertables.order_count_in(count, 1), 2 ** 2 ** count)
            self.assertEqual(ordertables.order_count_in(count, count + 1), ordertables.order_count(count))
            self.assertEqual(ordertables.order_count_in(count, 10 ** 30), ordertables.order_count(count))
            if count:
                self.assertLess(ordertables.order_count_in(count, count), ordertables.order_count(count))

    def test_distinct_sayings(self):
        # With one unknown there are six sayings, and in the chain of one step four.
        source = random.Random(125)
        sayings = [random_meant(source, source.randrange(5), ("x",)) for _ in range(800)]
        self.assertEqual(len({table_anew(saying, ("x",)) for saying in sayings}), 6)

    def test_all_numbers(self):
        for count in range(3):
            many = ordertables.order_count(count)
            seen = set()
            for number in range(many):
                table = ordertables.order_numbered(count, number)
                self.assertTrue(ordertables.is_order_table(count, table))
                self.assertEqual(ordertables.order_number(count, table), number)
                seen.add(table)
            self.assertEqual(len(seen), many)

    def test_great_numbers(self):
        source = random.Random(126)
        for count in (3, 4):
            many = ordertables.order_count(count)
            for number in [0, 1, many - 1] + [source.randrange(many) for _ in range(8)]:
                table = ordertables.order_numbered(count, number)
                self.assertTrue(ordertables.is_order_table(count, table))
                self.assertEqual(ordertables.order_number(count, table), number)
            table = ordertables.order_table(FOUR if count == 4 else ("and", X, ("or", Y, Z)))
            self.assertEqual(ordertables.order_numbered(count, ordertables.order_number(count, table)), table)

    def test_no_numbers(self):
        for count in range(5):
            for number in (-1, ordertables.order_count(count), 10 ** 900):
                check_raises(self, errors.OutOfRange, {"value": number}, ordertables.order_numbered, count, number)
        self.assertRaises(errors.TooMany, ordertables.order_table, FIVE)
