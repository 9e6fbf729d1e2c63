import itertools
import math
import random
import unittest
from fractions import Fraction

from halftruths import errors, termtables
from halftruths.groups import are_terms_alike
from halftruths.terms import is_term
from tests.helpers import X, Y, Z, check_raises, names_of
from tests.termcones import NIL, UNIT, added, amount, less, opposite, random_term, some_numbers, times, with_signs
from tests.test_productvalid import changed_once

NAMES = ("x", "y")
AXES = [(1, 0), (0, 1), (-1, 0), (0, -1)]
ZERO_FAN = ((1, 0, 0), (0, 1, 0), (-1, 0, 0), (0, -1, 0))
ABS = ("greater", X, opposite(X))


def ring(fan):
    return list(zip(fan, fan[1:] + fan[:1]))


def sector_numbers(fan):
    found = []
    for (p, q, v), (r, s, w) in ring(fan):
        below = p * s - q * r
        found.append((Fraction(v * s - w * q, below), Fraction(p * w - r * v, below)))
    return found


def fan_at(fan, x, y):
    for ((p, q, _), (r, s, _)), (a, b) in zip(ring(fan), sector_numbers(fan)):
        if p * y - q * x >= 0 and x * s - y * r >= 0:
            return a * x + b * y
    raise AssertionError((fan, x, y))


def directions(fan):
    pairs = [(p, q) for p, q, _ in fan]
    return pairs + [(2 * p + r, 2 * q + s) for (p, q), (r, s) in ring(pairs)] + some_numbers(2, 2)


def is_plain(fan):
    numbers = sector_numbers(fan)
    return all(numbers[k - 1] != numbers[k] or fan[k][:2] in AXES for k in range(len(fan)))


def made_plain(fan):
    numbers = sector_numbers(fan)
    return tuple(ray for k, ray in enumerate(fan) if numbers[k - 1] != numbers[k] or ray[:2] in AXES)


def cost_of(fan):
    return len(fan) * sum(int(abs(a) + abs(b)) + 1 for a, b in sector_numbers(fan))


def angle(ray):
    return math.atan2(ray[1], ray[0]) % (2 * math.pi)


def is_fan(fan):
    """Whether a value is a round fan, looked at anew."""
    if type(fan) is not tuple or not 4 <= len(fan) <= 1000:
        return False
    if not all(type(ray) is tuple and len(ray) == 3 and all(type(number) is int for number in ray) for ray in fan):
        return False
    if any(math.gcd(p, q) != 1 for p, q, _ in fan) or [ray[:2] for ray in fan if ray[:2] in AXES] != AXES:
        return False
    if fan[0][:2] != (1, 0) or any(p * s - q * r <= 0 for (p, q, _), (r, s, _) in ring(fan)):
        return False
    angles = [angle(ray) for ray in fan]
    if any(first >= second for first, second in zip(angles, angles[1:])):
        return False
    return all(number.denominator == 1 for pair in sector_numbers(fan) for number in pair)


def random_fan(source, rays, most):
    """Some round fan with four rays more than so many; None at bad luck."""
    pairs = set(AXES)
    while len(pairs) < rays + 4:
        p, q = source.randint(-4, 4), source.randint(-4, 4)
        if p and q:
            pairs.add((p // math.gcd(p, q), q // math.gcd(p, q)))
    pairs = sorted(pairs, key=angle)
    # A sum of bends at single rays, so that it comes back to itself after a whole turn.
    turns = {pair: source.choice((-2, -1, 0, 0, 1, 1, 2)) for pair in pairs}
    flat = [source.randint(-most // 2, most // 2) for _ in range(4)]

    def worth(x, y):
        total = flat[0] * max(x, 0) + flat[1] * max(-x, 0) + flat[2] * max(y, 0) + flat[3] * max(-y, 0)
        for (p, q), turn in turns.items():
            if p and q and p * x >= 0 and q * y >= 0:
                total += turn * min(abs(q * x), abs(p * y))
        return total
    fan = tuple((p, q, worth(p, q)) for p, q in pairs)
    return fan if all(max(abs(a), abs(b)) <= most for a, b in sector_numbers(fan)) else None


class Tables(unittest.TestCase):
    def check(self, term, names):
        table = termtables.term_table(term, names)
        self.assertIs(termtables.is_term_table(table, len(names)), True)
        if len(names) == 2:
            self.assertTrue(is_fan(table) and is_plain(table), table)
            for numbers in directions(table):
                self.assertEqual(amount(term, names, numbers, 0), fan_at(table, *numbers))
        elif len(names) == 1:
            for x in range(-3, 4):
                self.assertEqual(amount(term, names, (x,), 0), table[0] * x if x >= 0 else table[1] * x)
        return table

    def test_by_hand(self):
        for term, names, table in (
                (NIL, (), ()), (opposite(NIL), (), ()), (("lesser", NIL, NIL), (), ()), (X, ("x",), (1, 1)),
                (ABS, ("x",), (1, -1)), (("greater", X, NIL), ("x",), (1, 0)), (NIL, ("x",), (0, 0)),
                (times(-3, X), ("x",), (-3, -3)), (NIL, NAMES, ZERO_FAN), (X, NAMES, ((1, 0, 1), (0, 1, 0), (-1, 0, -1),
                                                                                    (0, -1, 0))),
                (X, ("y", "x"), ((1, 0, 0), (0, 1, 1), (-1, 0, 0), (0, -1, -1))),
                (("lesser", X, Y), NAMES, ((1, 0, 0), (1, 1, 1), (0, 1, 0), (-1, 0, -1), (-1, -1, -1), (0, -1, -1))),
                (("greater", less(X, Y), less(Y, X)), NAMES,
                 ((1, 0, 1), (1, 1, 0), (0, 1, 1), (-1, 0, 1), (-1, -1, 0), (0, -1, 1))),
                (("greater", times(2, X), times(-3, Y)), NAMES,
                 ((1, 0, 2), (0, 1, 0), (-3, 2, -6), (-1, 0, 0), (0, -1, 3), (3, -2, 6))),
                (("unknown", "nil"), ("nil",), (1, 1)), (("unknown", "unit"), ("unit",), (1, 1))):
            self.assertEqual(self.check(term, names), table, term)

    def test_at_random(self):
        source = random.Random(331)
        for signs in range(8):
            for _ in range(15):
                self.check(random_term(source, signs, ("x",), False, 4), ("x",))
                self.check(random_term(source, signs, NAMES, False, 4), NAMES)
                self.check(random_term(source, signs, ("y",), False, 4), NAMES)

    def test_great_ones(self):
        source = random.Random(332)
        for _ in range(6):
            hinges = [random_term(source, 1, NAMES, False, 6) for _ in range(24)]
            self.check(added(*hinges), NAMES)
            self.check(with_signs(24, hinges[:0] + [random_term(source, 0, NAMES, False, 6) for _ in range(9)]), NAMES)

    def test_alike_exactly_if_equal(self):
        source = random.Random(333)
        found = {True: 0, False: 0}
        for _ in range(150):
            first, second = [random_term(source, source.randrange(3), NAMES, False, 2) for _ in range(2)]
            if source.random() < 0.3:
                second = added(second, less(first, second))
            alike = are_terms_alike(first, second)
            self.assertIs(termtables.term_table(first, NAMES) == termtables.term_table(second, NAMES), alike)
            found[alike] += 1
        self.assertTrue(min(found.values()) > 20, found)

    def test_errors_in_their_order(self):
        table = termtables.term_table
        for term in (UNIT, added(X, UNIT), with_signs(30, [X, Y, Z, UNIT]), ("lesser", opposite(UNIT), Z)):
            check_raises(self, errors.WrongMark, {"mark": "unit"}, table, term, ())
        wide = [X, Y, Z, ("unknown", "w")]
        check_raises(self, errors.TooMany, {"what": "unknowns"}, table, with_signs(30, wide), ())
        for leaves, most in (([NIL], 24), ([X], 24), ([X, Y], 24), ([X, Y, Z], 12)):
            term = added(*leaves, with_signs(most + 1, leaves))
            check_raises(self, errors.TooMany, {"what": "signs"}, table, term, ())
            if len(leaves) < 3:
                table(with_signs(most, leaves), NAMES)
        check_raises(self, errors.UnknownName, {"name": "z"}, table, with_signs(12, [X, Z, Y]), NAMES)
        check_raises(self, errors.UnknownName, {"name": "x"}, table, X, ())
        check_raises(self, errors.UnknownName, {"name": "y"}, table, added(X, Y, Z), ("x",))


class Forms(unittest.TestCase):
    def test_few_names(self):
        for value, count in (((), 0), ((0, 0), 1), ((-5, 10 ** 30), 1), (ZERO_FAN, 2)):
            self.assertIs(termtables.is_term_table(value, count), True)
        for value, count in ((None, 0), ((0,), 0), (((),), 0), ((), 1), ((0,), 1), ((0, 0, 0), 1), ((True, 0), 1),
                             ((0, None), 1), ("ab", 1), (0, 1), ((), 2), ((0, 0), 2), (None, 2), (ZERO_FAN, 1),
                             (ZERO_FAN, 0), ("abcd", 2), (True, 2), ((None,) * 4, 2), ("", 0)):
            self.assertIs(termtables.is_term_table(value, count), False, value)

    def fits(self, fan):
        found = termtables.is_term_table(fan, 2)
        self.assertIs(found, is_fan(fan), fan)
        return found

    def test_fans(self):
        self.assertTrue(self.fits(((1, 0, 7), (0, 1, -3), (-1, 0, 2), (0, -1, 0))))
        self.assertTrue(self.fits(((1, 0, 0), (1, 1, 5), (0, 1, 0), (-1, 0, 0), (0, -1, 0))))
        for fan in (ZERO_FAN[1:] + ZERO_FAN[:1], ZERO_FAN[::-1], ZERO_FAN[:3], ZERO_FAN[:3] + ((0, 0, 0),),
                    ((1, 0, 0), (0, -1, 0), (-1, 0, 0), (0, 1, 0)), ((2, 0, 0),) + ZERO_FAN[1:],
                    ((1, 0, 0), (1, 1, 0), (-1, 1, 0), (-1, -1, 0), (1, -1, 0)),
                    ((1, 0, 0), (0, 1, 0), (0, 1, 0), (-1, 0, 0), (0, -1, 0)),
                    ((1, 0, 0), (2, 3, 1), (0, 1, 0), (-1, 0, 0), (0, -1, 0)),
                    ((1, 0, 0), (1, 1, 0), (2, 1, 0), (0, 1, 0), (-1, 0, 0), (0, -1, 0)),
                    ((1, 0, 0), (0, 1, 0), (1, 1, 0), (-1, 0, 0), (0, -1, 0)), ZERO_FAN + ((1, 1, 0),),
                    ZERO_FAN + ((1, -1, 0), (1, 0, 0)), ZERO_FAN + ZERO_FAN, ZERO_FAN + ((1, -1, 0), (1, 1, 0)),
                    ((1, 0), (0, 1), (-1, 0), (0, -1)), ((1, 0, 0), (0, 1, 0), (-1, 0, 0), (0, -1, True)),
                    ((1, 0, 0), (2, 2, 0), (0, 1, 0), (-1, 0, 0), (0, -1, 0)), list(ZERO_FAN)):
            self.assertFalse(self.fits(fan), fan)

    def test_many_rays(self):
        for size in (4, 5, 999, 1000, 1001):
            fan = (ZERO_FAN[0],) + tuple((1, k, 0) for k in range(1, size - 3)) + ZERO_FAN[1:]
            self.assertEqual(len(fan), size)
            self.assertIs(self.fits(fan), size <= 1000)

    def test_wrong_at_one_place(self):
        for fan in (ZERO_FAN, ((1, 0, 0), (1, 1, 1), (0, 1, 0), (-1, 0, -1), (-1, -1, -1), (0, -1, -1))):
            wrong = sum(not self.fits(other) for other in changed_once(fan))
            self.assertGreater(wrong, 40)


class Terms(unittest.TestCase):
    def check(self, names, table):
        self.assertTrue(termtables.is_term_table(table, len(names)))
        term = termtables.term_of_table(names, table)
        self.assertTrue(is_term(term))
        self.assertLessEqual(set(names_of(term)), set(names))
        if len(names) == 2:
            for numbers in directions(table):
                self.assertEqual(amount(term, names, numbers, 0), fan_at(table, *numbers), (table, numbers))
        elif len(names) == 1:
            for x in range(-3, 4):
                self.assertEqual(amount(term, names, (x,), 0), table[0] * x if x >= 0 else table[1] * x)
        else:
            self.assertEqual(amount(term, names, (), 0), 0)
        return term

    def test_few_names(self):
        self.check((), ())
        for table in itertools.product((-40, -2, -1, 0, 1, 3, 40), repeat=2):
            term = self.check(("x",), table)
            self.assertEqual(termtables.term_table(term, ("x",)), table)

    def test_at_random(self):
        source = random.Random(334)
        done = 0
        while done < 120:
            fan = random_fan(source, source.randint(0, 5), source.choice((3, 8, 40)))
            if fan is not None and cost_of(fan) <= 300:
                term = self.check(("y", "x1"), fan)
                if sum(word in str(term) for word in ("lesser", "greater")) and str(term).count("er'") <= 24:
                    self.assertEqual(termtables.term_table(term, ("y", "x1")), made_plain(fan))
                done += 1

    def test_tables_of_terms(self):
        source = random.Random(335)
        for signs in range(5):
            for _ in range(15):
                table = termtables.term_table(random_term(source, signs, NAMES, False, 3), NAMES)
                if cost_of(table) <= 300:
                    self.check(NAMES, table)

    def test_costliest(self):
        source = random.Random(336)
        best = {}
        for _ in range(4000):
            fan = random_fan(source, source.randint(0, 9), source.choice((2, 6, 16, 30)))
            if fan is not None and 200 < cost_of(fan) <= 300 and cost_of(fan) > best.get(len(fan), (0,))[0]:
                best[len(fan)] = (cost_of(fan), fan)
        self.assertGreaterEqual(len(best), 5)
        for _, fan in best.values():
            self.check(NAMES, fan)
        many = (ZERO_FAN[0],) + tuple((1, k, 0) for k in range(1, 14)) + ZERO_FAN[1:]
        self.assertEqual(cost_of(many), 289)
        self.check(NAMES, many)
        # Two rays at which it bends as far as the cost allows.
        self.check(NAMES, ((1, 0, 1), (1, 2, 9), (0, 1, 3), (-1, 0, 0), (0, -1, -8)))

    def test_too_great(self):
        told = termtables.term_of_table
        great = {"what": "coefficient"}
        for table in ((41, 0), (0, -41), (-41, 41), (10 ** 9, 0)):
            check_raises(self, errors.TooGreat, great, told, ("x",), table)
        for fan in (((1, 0, 41), (0, 1, 0), (-1, 0, 0), (0, -1, 0)), ((1, 0, 0), (0, 1, 0), (-1, 0, -41), (0, -1, 0)),
                    ((1, 0, 0), (1, 1, 41), (0, 1, 0), (-1, 0, 0), (0, -1, 0)),
                    ((1, 0, 40), (0, 1, 40), (-1, 0, 40), (0, -1, 41))):
            self.assertTrue(termtables.is_term_table(fan, 2))
            check_raises(self, errors.TooGreat, great, told, NAMES, fan)
        for fan, cost in ((((1, 0, 17), (0, 1, 1), (-1, 0, 17), (0, -1, 0)), 296),
                          (((1, 0, 35), (0, 1, 0), (-1, 0, 0), (0, -1, 0)), 296),
                          (((1, 0, 9), (0, 1, -9), (-1, 0, 9), (0, -1, 9)), 304),
                          (((1, 0, 40), (0, 1, 40), (-1, 0, 40), (0, -1, 40)), 4 * 324)):
            self.assertEqual(cost_of(fan), cost)
            if cost <= 300:
                self.check(NAMES, fan)
            else:
                check_raises(self, errors.TooGreat, {"what": "cost"}, told, NAMES, fan)
        self.check(("x",), (40, -40))

    def test_just_the_bound(self):
        # Fans with the costs 300 and 301.
        source = random.Random(337)
        found = {300: 0, 301: 0}
        while min(found.values()) < 4:
            fan = random_fan(source, source.choice((1, 2, 3, 6)), 30)
            cost = 0 if fan is None else cost_of(fan)
            if cost == 300:
                self.check(NAMES, fan)
            elif cost == 301:
                check_raises(self, errors.TooGreat, {"what": "cost"}, termtables.term_of_table, NAMES, fan)
            if cost in found:
                found[cost] += 1
