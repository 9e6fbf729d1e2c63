import random
import unittest
from fractions import Fraction

from halftruths import errors, orders, orderwords
from halftruths.sayings import is_saying
from tests.helpers import NO, W, X, Y, YES, Z, check_raises, neg
from tests.meanings import has_plus, order_places, order_worth, plus_in_each_place, random_meant
from tests.test_orders import FIVE, FOUR, all_kinds, check_meant_first, kind_of, names_in_order

NAMES = ("x", "y", "z", "w")


def tables_anew(count):
    """All tables of so many unknowns, each as a dict of its entries by the types."""
    kinds = sorted(all_kinds(count), key=lambda kind: max([level for level in kind if level <= count], default=0))
    found = [{}]
    for kind in kinds:
        blocks = max([level for level in kind if level <= count], default=0)
        longer = []
        for entries in found:
            if blocks == 0:
                choices = {0, count + 1}
            else:
                raised = entries[tuple(count + 1 if level == blocks else level for level in kind)]
                choices = {blocks, count + 1} if raised == count + 1 else {raised}
            longer += [{**entries, kind: entry} for entry in choices]
        found = longer
    return found


TABLES = [tables_anew(count) for count in range(3)]


def outer_values(saying, name, others, place):
    """(greatest value, greatest value that is never passed below) of the saying when the name goes through all values.

    Between two neighbouring values all values of the name give the same, or each gives itself.
    """
    names = others + (name,)
    ends = sorted(set(place) | {Fraction(0), Fraction(1)})
    greatest = least = order_worth(saying, names, list(place) + [ends[0]])
    for low, high in zip(ends, ends[1:]):
        middle = order_worth(saying, names, list(place) + [(low + high) / 2])
        for found in (low if middle == (low + high) / 2 else middle, order_worth(saying, names, list(place) + [high])):
            least = min(least, found)
        greatest = max(greatest, middle, order_worth(saying, names, list(place) + [high]))
    return greatest, least


def check_word(test, word, first, second, steps):
    """Fails if this is no word between the two sayings in the chain of so many steps."""
    test.assertTrue(is_saying(word))
    test.assertFalse(has_plus(word))
    shared = set(names_in_order(first)) & set(names_in_order(second))
    test.assertTrue(set(names_in_order(word)) <= shared)
    for one, other in ((first, word), (word, second)):
        names = names_in_order(one, other)
        for place in order_places(len(names), steps):
            test.assertLessEqual(order_worth(one, names, place), order_worth(other, names, place))


class Without(unittest.TestCase):
    def check(self, saying, name):
        names = names_in_order(saying)
        others = tuple(other for other in names if other != name)
        least = orderwords.least_without(saying, name)
        greatest = orderwords.greatest_without(saying, name)
        for found in (least, greatest):
            self.assertTrue(is_saying(found))
            self.assertFalse(has_plus(found))
            self.assertTrue(set(names_in_order(found)) <= set(others))
        for place in order_places(len(others), len(others) + 1):
            above, below = outer_values(saying, name, others, place)
            self.assertEqual(order_worth(least, others, place), above, (saying, place))
            self.assertEqual(order_worth(greatest, others, place), below, (saying, place))

    def test_by_hand(self):
        for saying in (X, neg(X), ("leads", X, Y), ("leads", Y, X), ("and", X, Y), ("or", X, Y), ("same", X, Y),
                       ("leads", ("leads", X, Y), X), ("leads", ("leads", Y, X), Y), ("and", ("leads", X, Y), X),
                       ("or", ("leads", Y, X), ("leads", X, Z)), ("and", ("leads", ("leads", X, Y), X), Z)):
            self.check(saying, "x")
        for saying, least, greatest in ((X, YES, NO), (neg(X), YES, NO), (("and", X, Y), Y, NO), (("or", X, Y), YES, Y),
                                        (("leads", X, Y), YES, Y), (("leads", Y, X), YES, neg(Y))):
            self.assertTrue(orders.order_alike(orderwords.least_without(saying, "x"), least))
            self.assertTrue(orders.order_alike(orderwords.greatest_without(saying, "x"), greatest))

    def test_names_that_do_not_stand_in_it(self):
        for function in (orderwords.least_without, orderwords.greatest_without):
            for saying in (YES, X, ("and", X, neg(neg(Y))), FOUR):
                self.assertEqual(function(saying, "v"), saying)

    def test_at_random(self):
        source = random.Random(111)
        for count, marks, tries in ((1, 4, 15), (2, 6, 25), (3, 8, 15), (4, 9, 8)):
            for _ in range(tries):
                saying = random_meant(source, marks, NAMES[:count])
                for name in names_in_order(saying)[:2]:
                    self.check(saying, name)

    def test_great_ones(self):
        source = random.Random(112)
        for _ in range(6):
            saying = ("or", neg(("and", W, X)), random_meant(source, 40, NAMES, 0.1))
            for name in NAMES:
                self.check(saying, name)

    def test_weakest_and_strongest(self):
        source = random.Random(113)
        for _ in range(60):
            saying = random_meant(source, 3, ("x", "y"))
            other = random_meant(source, 2, ("y", "z"))
            if "x" in names_in_order(saying):
                least = orderwords.least_without(saying, "x")
                greatest = orderwords.greatest_without(saying, "x")
                self.assertTrue(orders.order_valid(("leads", saying, least)))
                self.assertTrue(orders.order_valid(("leads", greatest, saying)))
                self.assertIs(orders.order_valid(("leads", saying, other)), orders.order_valid(("leads", least, other)))
                self.assertIs(orders.order_valid(("leads", other, saying)),
                              orders.order_valid(("leads", other, greatest)))

    def test_errors(self):
        for function in (orderwords.least_without, orderwords.greatest_without):
            for name in ("x", "q"):
                check_meant_first(self, lambda saying: function(saying, name))
            function(FOUR, "z")


class Words(unittest.TestCase):
    def check(self, first, second):
        names = names_in_order(first, second)
        word = orderwords.order_word(first, second)
        if all(order_worth(first, names, place) <= order_worth(second, names, place)
               for place in order_places(len(names), len(names) + 1)):
            check_word(self, word, first, second, len(names) + 1)
        else:
            self.assertIsNone(word)
        return word is not None

    def test_by_hand(self):
        for first, second, told in (
                (X, X, True), (X, Y, False), (("and", X, Y), ("or", X, Z), True), (NO, X, True), (X, YES, True),
                (("and", X, neg(X)), Y, True), (X, ("leads", Y, Y), True), (YES, NO, False), (YES, X, False),
                (("and", X, ("leads", X, Y)), ("or", Y, Z), True), (("and", X, Y), ("or", Y, X), True),
                (("and", ("and", X, Y), Z), ("and", X, Y), True), (X, ("or", ("or", X, Y), ("or", Z, W)), True)):
            self.assertIs(self.check(first, second), told, (first, second))

    def test_at_random(self):
        source = random.Random(114)
        told = 0
        for names, others in ((("x",), ("y",)), (("x", "y"), ("y", "z")), (("x", "y", "z"), ("y", "z", "w")),
                              (("x", "w"), ("x", "y", "z")), (NAMES, NAMES[:2]), (NAMES, NAMES)):
            for _ in range(40 if len(names) < 4 else 8):
                first = ("and", random_meant(source, 2, names), random_meant(source, 1, names))
                second = ("or", random_meant(source, 2, others), random_meant(source, 1, others))
                told += self.check(first, second)
        self.assertGreater(told, 40)

    def test_errors(self):
        two = ("and", X, Y)
        for function in (orderwords.order_word, lambda a, b: orderwords.order_word_in(a, b, 3),
                         lambda a, b: orderwords.order_word_in(a, b, 0)):
            check_meant_first(self, lambda saying: function(saying, X))
            check_meant_first(self, lambda saying: function(X, saying))
            check_raises(self, errors.TooMany, {"what": "unknowns"}, function, two, ("and", Z, FIVE))
            check_raises(self, errors.WrongMark, {"mark": "plus"}, function, FIVE, plus_in_each_place()[0])
        for steps in (0, -1, 7, 1000):
            check_raises(self, errors.OutOfRange, {"value": steps}, orderwords.order_word_in, X, X, steps)
        orderwords.order_word(two, ("and", Z, W))
        for steps in (1, 6):
            orderwords.order_word_in(two, ("and", Z, W), steps)


class WordsInChains(unittest.TestCase):
    def check_in(self, first, second, steps):
        word = orderwords.order_word_in(first, second, steps)
        if word is None:
            self.assertFalse(self.is_one(first, second, steps), (first, second, steps))
        else:
            check_word(self, word, first, second, steps)
        return word is not None

    def is_one(self, first, second, steps):
        """Whether some table of the shared names, at most two, is one of a word between."""
        names, others = names_in_order(first), names_in_order(second)
        shared = tuple(name for name in names if name in others)
        lows, highs = {}, {}
        for found, saying, own, best in ((lows, first, names, max), (highs, second, others, min)):
            for place in order_places(len(own), steps):
                key = tuple(place[own.index(name)] for name in shared)
                value = order_worth(saying, own, place)
                found[key] = best(found.get(key, value), value)
        for entries in TABLES[len(shared)]:
            if all(lows[key] <= self.entry_at(entries, key) <= highs[key] for key in lows):
                return True
        return False

    def entry_at(self, entries, key):
        kind = kind_of(key)
        level = entries[kind]
        return Fraction(0) if level == 0 else Fraction(1) if level > len(kind) else key[kind.index(level)]

    def test_by_hand_in_chains(self):
        gap = ("and", ("leads", ("leads", Y, X), Y), neg(neg(X)))
        above = ("leads", ("leads", Y, Z), Y)
        self.assertIsNone(orderwords.order_word(gap, ("or", Y, above)))
        for first, second in ((gap, Y), (gap, ("or", Y, above)), (gap, ("or", Y, ("leads", Y, Z))), (gap, neg(neg(Y))),
                              (("and", X, Y), ("or", Y, Z)), (X, Y), (X, ("or", Z, neg(Z))),
                              (("and", X, neg(X)), Z), (neg(neg(X)), X)):
            for steps in range(1, 7):
                self.check_in(first, second, steps)
        self.assertIsNotNone(orderwords.order_word_in(neg(neg(X)), X, 1))
        self.assertIsNone(orderwords.order_word_in(neg(neg(X)), X, 2))
        self.assertIsNotNone(orderwords.order_word_in(gap, Y, 2))
        self.assertIsNone(orderwords.order_word_in(gap, Y, 3))

    def test_valid_and_no_word(self):
        # In the chain of three steps, with y inside, a value strictly between 0 and y tells that y is 2/3, and a
        # value strictly between y and 1 that it is 1/3. No saying of y alone tells one of them from the other.
        first = ("and", ("leads", ("leads", Y, X), Y), neg(neg(X)))
        second = ("leads", ("leads", ("leads", Z, Y), Z), Z)
        self.assertTrue(orders.order_valid_in(("leads", first, second), 3))
        self.assertFalse(self.check_in(first, second, 3))
        for steps in (1, 2):
            self.assertTrue(self.check_in(first, second, steps))
        for steps in (4, 5, 6):
            self.assertFalse(orders.order_valid_in(("leads", first, second), steps))
            self.assertFalse(self.check_in(first, second, steps))

    def test_at_random_in_chains(self):
        source = random.Random(116)
        told = []
        for names, others in ((("x",), ("y",)), (("x", "y"), ("y", "z")), (("x", "y", "z"), ("y", "z", "w")),
                              (("x", "y", "w"), ("y", "z"))):
            for _ in range(25):
                first = ("and", random_meant(source, 2, names), random_meant(source, 1, names))
                second = ("or", random_meant(source, 2, others), random_meant(source, 1, others))
                for steps in (1, 2, source.randrange(3, 7)):
                    told.append(self.check_in(first, second, steps))
        self.assertTrue(20 < sum(told) < len(told) - 20)

    def test_four_shared(self):
        source = random.Random(117)
        for _ in range(8):
            first = ("and", FOUR, random_meant(source, 2, NAMES))
            second = ("or", random_meant(source, 3, NAMES), ("and", FOUR, FOUR))
            for steps in (1, 2):
                word = orderwords.order_word_in(first, second, steps)
                valid = all(order_worth(first, NAMES, place) <= order_worth(second, NAMES, place)
                            for place in order_places(4, steps))
                self.assertIs(word is not None, valid)
                if valid:
                    check_word(self, word, first, second, steps)
