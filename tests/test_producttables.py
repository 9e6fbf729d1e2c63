import itertools
import math
import random
import unittest
from fractions import Fraction

from halftruths import errors, producttables
from halftruths.productvalid import are_product_alike
from halftruths.sayings import is_saying, used_times
from tests.helpers import NO, W, X, Y, YES, Z, check_raises, names_of, neg
from tests.meanings import plus_in_each_place, random_meant, with_meant_marks
from tests.test_productvalid import changed_once
from tests.test_products import check_products_first, check_products_kept

NAMES = ("x", "y")
EXAMPLE = ((), 0, None, ((1, 0, 0), (1, 1, 0), (0, 1, 1)))
ZERO_FAN = ((1, 0, 0), (0, 1, 0))


def length(saying, names, lengths):
    """The length of a saying, reckoned anew; lengths may be fractions."""
    kind = saying[0]
    if kind == "unknown":
        return lengths[names.index(saying[1])]
    if kind in ("yes", "no"):
        return 0 if kind == "yes" else None
    a = length(saying[1], names, lengths)
    if kind == "not":
        return 0 if a is None else None
    b = length(saying[2], names, lengths)
    great = float("inf")
    a, b = great if a is None else a, great if b is None else b
    found = {"times": lambda: a + b, "and": lambda: max(a, b), "or": lambda: min(a, b),
             "leads": lambda: 0 if a >= b else b - a, "same": lambda: 0 if a == b else abs(a - b)}[kind]()
    return None if found == great else found


def sector_numbers(fan):
    """The coefficients of the sectors, as fractions."""
    found = []
    for (p, q, v), (r, s, w) in zip(fan, fan[1:]):
        below = p * s - q * r
        found.append((Fraction(v * s - w * q, below), Fraction(p * w - r * v, below)))
    return found


def fan_at(fan, l, m):
    for (p, q, _), (r, s, _), (a, b) in zip(fan, fan[1:], sector_numbers(fan)):
        if p * m - q * l >= 0 and l * s - m * r >= 0:
            return a * l + b * m
    raise AssertionError((fan, l, m))


def entry_at(entry, case, lengths):
    """What a table's entry tells for lengths of its case."""
    if entry is None:
        return None
    numbers = [number for number in lengths if number is not None]
    if sum(case) == 0:
        return 0
    return entry * numbers[0] if sum(case) == 1 else fan_at(entry, *numbers)


def fan_directions(fan):
    """All rays, and directions between them."""
    pairs = [(p, q) for p, q, _ in fan]
    between = [(3 * p + r, 3 * q + s) for (p, q), (r, s) in zip(pairs, pairs[1:])]
    return pairs + between + [(p + 2 * r, q + 2 * s) for (p, q), (r, s) in zip(pairs, pairs[1:])]


def is_plain(fan):
    numbers = sector_numbers(fan)
    return all(first != second for first, second in zip(numbers, numbers[1:]))


def made_plain(fan):
    numbers = sector_numbers(fan)
    return (fan[0],) + tuple(ray for ray, a, b in zip(fan[1:], numbers, numbers[1:]) if a != b) + (fan[-1],)


def cost_of(table):
    total = 0
    for entry in table:
        if entry is None or entry == ():
            total += 1
        elif type(entry) is int:
            total += entry + 1
        else:
            numbers = sector_numbers(entry)
            total += len(numbers) * sum(int(abs(a) + abs(b)) + 1 for a, b in numbers)
    return total


def random_fan(source, rays, most):
    """Some fan with about so many rays; in each sector the coefficients are at most so great. None at bad luck."""
    pairs = {(1, 0), (0, 1)}
    while len(pairs) < rays:
        p, q = source.randint(1, 7), source.randint(1, 7)
        pairs.add((p // math.gcd(p, q), q // math.gcd(p, q)))
    pairs = sorted(pairs, key=lambda pair: Fraction(pair[1], sum(pair)))
    a, b = source.randint(0, most), source.randint(-most, most)
    fan = [(1, 0, a)]
    for p, q in pairs[1:]:
        fan.append((p, q, a * p + b * q))
        if fan[-1][2] < 0:
            return None
        turn = source.choice((-2, -1, -1, 0, 1, 1, 2))
        a, b = a + turn * q, b - turn * p
    numbers = sector_numbers(fan)
    return tuple(fan) if all(max(abs(a), abs(b)) <= most for a, b in numbers) else None


def some_table(source, count, rays=5, most=20):
    table = []
    for case in itertools.product((0, 1), repeat=count):
        fan = None
        while sum(case) == 2 and fan is None:
            fan = random_fan(source, rays, most)
        table.append(source.choice((None, [(), source.randint(0, 40), fan][sum(case)])))
    return tuple(table)


class Tables(unittest.TestCase):
    def check(self, saying, names):
        table = producttables.product_table(saying, names)
        self.assertIs(producttables.is_product_table(table, len(names)), True, table)
        for case, entry in zip(itertools.product((0, 1), repeat=len(names)), table):
            if sum(case) == 2 and entry is not None:
                self.assertTrue(is_plain(entry))
                tried = fan_directions(entry) + [(k, 12 - k) for k in range(13)]
            else:
                tried = [(1, 1), (5, 5), (0, 0)]
            for lengths in tried:
                place = [number if positive else None for number, positive in zip(lengths, case)]
                self.assertEqual(length(saying, names, place), entry_at(entry, case, place), (saying, place))
        return table

    def test_example(self):
        self.assertEqual(self.check(("leads", X, Y), NAMES), EXAMPLE)

    def test_by_hand(self):
        for saying, names, table in (
                (YES, (), ((),)), (NO, (), (None,)), (neg(NO), (), ((),)), (X, ("x",), (None, 1)),
                (neg(X), ("x",), ((), None)), (neg(neg(X)), ("x",), (None, 0)), (used_times(X, 5), ("x",), (None, 5)),
                (YES, ("x",), ((), 0)), (NO, ("x",), (None, None)), (X, NAMES, (None, None, 1, ((1, 0, 1), (0, 1, 0)))),
                (X, ("y", "x"), (None, 1, None, ((1, 0, 0), (0, 1, 1)))), (NO, NAMES, (None,) * 4),
                (YES, NAMES, ((), 0, 0, ZERO_FAN)), (("times", X, Y), NAMES, (None,) * 3 + (((1, 0, 1), (0, 1, 1)),)),
                (("and", X, Y), NAMES, (None,) * 3 + (((1, 0, 1), (1, 1, 1), (0, 1, 1)),)),
                (("or", X, Y), NAMES, (None, 1, 1, ((1, 0, 0), (1, 1, 1), (0, 1, 0)))),
                (("same", X, ("times", Y, Y)), NAMES, ((), None, None, ((1, 0, 1), (2, 1, 0), (0, 1, 2))))):
            self.assertEqual(self.check(saying, names), table, saying)

    def test_at_random(self):
        source = random.Random(211)
        for marks in range(10):
            for _ in range(15):
                self.check(random_meant(source, marks, NAMES), NAMES)
                self.check(random_meant(source, marks, ("y",)), ("x", "y"))
                self.check(random_meant(source, marks, ("x",)), ("x",))

    def test_great_sayings(self):
        self.assertEqual(self.check(used_times(X, 13), ("x",)), (None, 13))
        source = random.Random(212)
        for _ in range(30):
            self.check(random_meant(source, 9, NAMES, 0), NAMES)

    def test_alike_if_tables_are_equal(self):
        source = random.Random(213)
        found = {True: 0, False: 0}
        for _ in range(200):
            first, second = random_meant(source, 2, NAMES), random_meant(source, 1, NAMES)
            alike = are_product_alike(first, second)
            self.assertIs(producttables.product_table(first, NAMES) == producttables.product_table(second, NAMES),
                          alike)
            found[alike] += 1
        self.assertTrue(min(found.values()) > 5, found)

    def test_errors_in_their_order(self):
        check_products_first(self, lambda saying: producttables.product_table(saying, ()))
        check_products_kept(lambda saying: producttables.product_table(
            saying if len(names_of(saying)) < 3 else YES, names_of(saying)[:2]))
        for saying, names, name in ((X, (), "x"), (("or", Y, X), ("x",), "y"), (("and", Z, W), NAMES, "z"),
                                    (("and", X, ("or", W, Z)), NAMES, "w")):
            check_raises(self, errors.UnknownName, {"name": name}, producttables.product_table, saying, names)


class Forms(unittest.TestCase):
    def test_right_ones(self):
        for value, count in (((None,), 0), (((),), 0), ((None, None), 1), (((), 0), 1), (((), 10 ** 9), 1),
                             ((None,) * 4, 2), (EXAMPLE, 2), (((), 0, 0, ((1, 0, 5), (1, 1, 10), (0, 1, 5))), 2),
                             ((None, 41, 41, ((1, 0, 100), (0, 1, 100))), 2)):
            self.assertIs(producttables.is_product_table(value, count), True, value)

    def test_wrong_ones(self):
        for value, count in ((None, 0), ((), 0), ((0,), 0), ((None, None), 0), (((), ()), 0), ((None,), 1),
                             ((0, 0), 1), (((), -1), 1), (((), True), 1), (((), ()), 1), (((), "0"), 1),
                             (((), 0, None), 1), ((None,) * 3, 2), ((None,) * 5, 2), (((), 0, 0, ()), 2),
                             (((), 0, 0, 0), 2), (("", 0), 1), ((False, 0), 1), ("ab", 1)):
            self.assertIs(producttables.is_product_table(value, count), False, value)

    def test_fans(self):
        def fits(fan):
            return producttables.is_product_table((None, None, None, fan), 2)
        for fan in (ZERO_FAN, ((1, 0, 3), (0, 1, 9)), ((1, 0, 0), (2, 3, 5), (0, 1, 0)), ((1, 0, 1), (3, 1, 4), (0, 1, 1)),
                    ((1, 0, 0), (1, 2, 0), (1, 1, 0), (0, 1, 1)), ((1, 0, 0), (2, 3, 6), (0, 1, 0)),
                    ((1, 0, 0), (2, 2, 2), (0, 1, 0)), ((1, 0, 0), (1, 1, 1), (1, 1, 1), (0, 1, 0)),
                    ((2, 0, 0), (0, 1, 0)), ((1, 0, 0), (0, 2, 0)), ((1, 0, 0),), ((0, 1, 0), (1, 0, 0)),
                    ((1, 0, 0), (1, 1, 0)), ((1, 1, 0), (0, 1, 0)), ((1, 0, 0), (1, 1, -1), (0, 1, 0)),
                    ((1, 0, -1), (0, 1, 0)), ((1, 0, 0), (-1, 1, 0), (0, 1, 0)), ((1, 0), (0, 1)),
                    ((1, 0, 0), (0, 1, True)), ((1, 0, None), (0, 1, 0)), (None, (0, 1, 0)), ((1, 0, 0), (0, 0, 0), (0, 1, 0)),
                    ((1, 0, 0), (1, 3, 1), (2, 1, 0), (0, 1, 0)), ((1, 0, 0), (5, 3, 1), (0, 1, 0))):
            self.assertIs(fits(fan), self.is_fan(fan), fan)
        self.assertTrue(fits(((1, 0, 0), (2, 3, 6), (0, 1, 0))))
        self.assertFalse(fits(((1, 0, 0), (2, 3, 5), (0, 1, 0))))

    def is_fan(self, fan):
        if not all(type(ray) is tuple and len(ray) == 3 and all(type(n) is int and n >= 0 for n in ray) for ray in fan):
            return False
        if not 2 <= len(fan) <= 40 or fan[0][:2] != (1, 0) or fan[-1][:2] != (0, 1):
            return False
        if any(math.gcd(p, q) != 1 for p, q, _ in fan):
            return False
        if any(p * s - q * r <= 0 for (p, q, _), (r, s, _) in zip(fan, fan[1:])):
            return False
        return all(number.denominator == 1 for pair in sector_numbers(fan) for number in pair)

    def test_so_many_rays(self):
        for size in (2, 3, 39, 40, 41):
            fan = ((1, 0, 1),) + tuple((1, k, 1 + k) for k in range(1, size - 1)) + ((0, 1, 1),)
            self.assertEqual(len(fan), size)
            self.assertIs(producttables.is_product_table(((), 0, 0, fan), 2), size <= 40)

    def test_wrong_at_one_place(self):
        for fan in (EXAMPLE[3], ((1, 0, 2), (2, 1, 4), (1, 1, 3), (0, 1, 3))):
            self.assertTrue(producttables.is_product_table((None, None, None, fan), 2))
            for other in changed_once(fan):
                fits = type(other) is tuple and self.is_fan(other)
                self.assertIs(producttables.is_product_table((None, None, None, other), 2), fits, other)


class Sayings(unittest.TestCase):
    def check(self, names, table):
        self.assertTrue(producttables.is_product_table(table, len(names)), table)
        saying = producttables.saying_of_table(names, table)
        self.assertTrue(is_saying(saying))
        self.assertLessEqual(set(names_of(saying)), set(names))
        for case, entry in zip(itertools.product((0, 1), repeat=len(names)), table):
            tried = fan_directions(entry) if sum(case) == 2 and entry is not None else [(1, 1), (3, 2), (0, 0)]
            for lengths in tried:
                place = [number if positive else None for number, positive in zip(lengths, case)]
                self.assertEqual(length(saying, names, place), entry_at(entry, case, place), (table, place))
        return saying

    def test_by_hand(self):
        self.check(NAMES, EXAMPLE)
        for table in ((None,), ((),)):
            self.check((), table)
        for table in itertools.product((None, ()), (None, 0, 1, 2, 40)):
            self.check(("x",), table)
        for table in itertools.product((None, ()), (None, 0, 3), (None, 0, 2),
                                       (None, ZERO_FAN, EXAMPLE[3], ((1, 0, 1), (0, 1, 2)))):
            self.check(("y", "x1"), table)

    def test_at_random(self):
        source = random.Random(214)
        tried = 0
        while tried < 60:
            table = some_table(source, 2, source.randint(2, 7), source.choice((3, 10, 40)))
            if cost_of(table) <= 300:
                self.check(NAMES, table)
                tried += 1

    def test_tables_of_sayings(self):
        source = random.Random(215)
        for marks in range(6):
            for _ in range(12):
                saying = random_meant(source, marks, NAMES)
                table = producttables.product_table(saying, NAMES)
                if cost_of(table) <= 300:
                    self.check(NAMES, table)
        small = producttables.saying_of_table(("x",), ((), 3))
        self.assertEqual(producttables.product_table(small, ("x",)), ((), 3))
        for table in ((None, None, 1, None), (None, None, None, ((1, 0, 1), (0, 1, 0)))):
            self.assertEqual(producttables.product_table(producttables.saying_of_table(NAMES, table), NAMES), table)

    def test_not_plain(self):
        fan = ((1, 0, 1), (3, 1, 4), (1, 1, 2), (1, 2, 3), (0, 1, 1))
        self.check(NAMES, (None, None, None, fan))
        source = random.Random(216)
        for _ in range(20):
            fan = None
            while fan is None or cost_of((fan,)) > 290:
                fan = random_fan(source, 5, 9)
            self.check(NAMES, ((), 1, 1, fan))
            self.check(NAMES, (None, 1, 1, made_plain(fan)))

    def test_cost_at_its_bound(self):
        for fan in (((1, 0, 40), (1, 1, 72), (0, 1, 32)), ((1, 0, 20), (1, 1, 30), (1, 2, 30), (0, 1, 5)),
                    ((1, 0, 40), (1, 1, 60), (0, 1, 33)),
                    ((1, 0, 0),) + tuple((1, k, 0) for k in range(1, 16)) + ((0, 1, 0),)):
            rest = 297 - cost_of((fan,))
            first, second = min(39, rest), max(0, rest - 39)
            self.assertEqual(cost_of((None, first, second, fan)), 300, fan)
            self.check(NAMES, (None, first, second, fan))
            for table in ((None, first + 1, second, fan), (None, first, second + 1, fan), ((), second, first + 1, fan)):
                check_raises(self, errors.TooGreat, {"what": "cost"}, producttables.saying_of_table, NAMES, table)

    def test_costliest(self):
        # The last fan that is within the cost, for many ways to go on from sector to sector.
        source = random.Random(217)
        best = {}
        for _ in range(3000):
            fan = random_fan(source, source.randint(2, 12), 40)
            if fan is not None and is_plain(fan) and cost_of((fan,)) <= 297:
                if cost_of((fan,)) > cost_of((best.get(len(fan), ZERO_FAN),)):
                    best[len(fan)] = fan
        self.assertGreater(len(best), 4)
        for fan in best.values():
            rest = 300 - cost_of((fan,)) - 3
            self.check(NAMES, ((), min(40, rest), 0, fan))

    def test_too_great(self):
        told = producttables.saying_of_table
        great = {"what": "coefficient"}
        for table in ((None, 41), ((), 10 ** 6)):
            check_raises(self, errors.TooGreat, great, told, ("x",), table)
        self.check(("x",), ((), 40))
        for fan in (((1, 0, 41), (0, 1, 0)), ((1, 0, 0), (0, 1, 41)), ((1, 0, 41), (1, 1, 0), (0, 1, 41)),
                    ((1, 0, 0), (1, 1, 41), (0, 1, 0)), ((1, 0, 0), (1, 3, 42), (0, 1, 0))):
            check_raises(self, errors.TooGreat, great, told, NAMES, (None, None, None, fan))
        # A great number goes before a great cost, wherever it stands.
        dear = ((1, 0, 40), (1, 1, 80), (0, 1, 40))
        check_raises(self, errors.TooGreat, {"what": "cost"}, told, NAMES, (None, None, None, dear))
        check_raises(self, errors.TooGreat, great, told, NAMES, (None, 41, None, dear))
        check_raises(self, errors.TooGreat, great, told, NAMES,
                     (None, None, None, ((1, 0, 40), (1, 1, 80), (1, 2, 120), (0, 1, 41))))

    def test_plus_is_not_meant(self):
        for bad in plus_in_each_place():
            check_raises(self, errors.WrongMark, {"mark": "plus"}, producttables.product_table, bad, ())
        check_raises(self, errors.TooMany, {"what": "marks"}, producttables.product_table,
                     with_meant_marks(10, [X, Y]), ())
