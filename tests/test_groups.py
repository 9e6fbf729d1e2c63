import itertools
import random
import unittest
from fractions import Fraction

from halftruths import errors, groups
from halftruths.terms import is_term, term_row
from tests.helpers import W, X, Y, Z, check_raises, names_of
from tests.termcones import (NIL, UNIT, added, amount, judged_term, less, opposite, random_linear,
                             random_term, some_numbers, times, with_signs)
from tests.test_productvalid import changed_once, greater

NAMES = ("x", "y", "z")
ABS = ("greater", X, opposite(X))
NEVER_ABOVE = (
    (("lesser", X, NIL), X), (("lesser", X, Y), X), (X, ("greater", Y, X)), (NIL, ABS), (NIL, NIL), (NIL, UNIT),
    (UNIT, UNIT), (("lesser", X, Y), ("greater", X, Y)), (less(X, X), NIL), (X, X), (added(X, Y), added(Y, X)),
    (("greater", added(X, Y), NIL), added(("greater", X, NIL), ("greater", Y, NIL))), (opposite(ABS), X),
    (added(("lesser", X, Y), Z), ("lesser", added(X, Z), added(Y, Z))), (("lesser", X, UNIT), UNIT),
    (("lesser", X, ("greater", Y, Z)), ("greater", ("lesser", X, Y), ("lesser", X, Z))),
    (("lesser", X, less(UNIT, X)), UNIT), (added(("lesser", X, less(UNIT, X)), ("lesser", X, less(UNIT, X))), UNIT),
    (opposite(opposite(X)), X), (times(3, ("lesser", X, Y)), ("lesser", times(3, X), times(3, Y))),
    (less(X, Y), ("greater", less(X, Y), UNIT)), (opposite(UNIT), NIL))
ABOVE = (
    (X, NIL), (NIL, X), (UNIT, NIL), (X, Y), (ABS, NIL), (X, ("lesser", X, NIL)), (("greater", X, Y), X), (X, UNIT),
    (("lesser", X, less(UNIT, X)), NIL), (added(X, X), X), (opposite(X), X), (UNIT, ABS), (ABS, added(X, Y)),
    (("lesser", less(times(7, X), times(5, Y)), less(times(5, Y), times(6, X))), NIL),
    (added(("greater", X, NIL), ("greater", Y, NIL)), ("greater", added(X, Y), NIL)),
    (added(X, Y, Z), ("greater", X, ("greater", Y, Z))), (times(40, X), times(39, X)),
    (("lesser", less(X, times(9, Y)), less(times(10, Y), X)), NIL))


class NeverAbove(unittest.TestCase):
    def check(self, first, second):
        names = names_of(first, second)
        never = groups.is_never_above(first, second)
        self.assertIs(type(never), bool)
        certificate = groups.never_above(first, second)
        found = groups.above_numbers(first, second)
        if never:
            self.assertIsNone(found)
            self.assertTrue(judged_term(first, second, certificate, True), (first, second, certificate))
            self.assertIs(groups.shows_never_above(first, second, certificate), True)
            for numbers in some_numbers(len(names), 2):
                for unit in range(3):
                    self.assertLessEqual(amount(first, names, numbers, unit), amount(second, names, numbers, unit))
        else:
            self.assertIsNone(certificate)
            self.check_numbers(first, second, found)
        return never

    def check_numbers(self, first, second, found):
        names = names_of(first, second)
        numbers, unit = found
        self.assertIs(type(numbers), tuple)
        self.assertEqual(len(numbers), len(names))
        self.assertTrue(all(type(number) is int and abs(number) <= 10 ** 6 for number in numbers + (unit,)))
        self.assertGreaterEqual(unit, 0)
        self.assertGreater(amount(first, names, numbers, unit), amount(second, names, numbers, unit))
        rows = tuple((number,) for number in numbers)
        self.assertGreater(term_row(first, names, rows, (unit,)), term_row(second, names, rows, (unit,)))

    def test_example(self):
        value = ((("is", "most", 1, (0, 1)), ("sum", 1, (0, 0))), (("is", "least", 1, (0, 1)), ("sum", 1, (0, 1))))
        self.assertTrue(judged_term(("lesser", X, NIL), X, value, True))
        self.assertEqual(groups.never_above(("lesser", X, NIL), X), value)
        self.assertIs(groups.shows_never_above(("lesser", X, NIL), X, value), True)

    def test_by_hand(self):
        for first, second in NEVER_ABOVE:
            self.assertTrue(self.check(first, second), (first, second))
        for first, second in ABOVE:
            self.assertFalse(self.check(first, second), (first, second))

    def test_one_unit_is_not_enough(self):
        term = ("lesser", X, less(UNIT, X))
        for x in range(-9, 10):
            self.assertLessEqual(amount(term, ("x",), (x,), 1), 0)
        self.assertEqual(amount(term, ("x",), (1,), 2), 1)
        self.assertFalse(self.check(term, NIL))

    def test_at_random(self):
        source = random.Random(261)
        found = {True: 0, False: 0}
        for count, unit, most in ((0, True, 6), (1, False, 8), (1, True, 8), (2, False, 8), (2, True, 4), (3, False, 4)):
            for _ in range(40):
                first = random_term(source, source.randrange(most), NAMES[:count], unit, 2)
                second = random_term(source, source.randrange(most), NAMES[:count], unit, 2)
                found[self.check(first, second)] += 1
                found[self.check(("lesser", first, second), second)] += 1
        self.assertTrue(min(found.values()) > 100, found)

    def test_great_ones(self):
        source = random.Random(262)
        for names, unit, most in ((("x",), True, 24), (("x", "y"), False, 24), (("x", "y"), True, 12), (NAMES, False, 12)):
            for _ in range(6):
                lines = [random_linear(source, names, unit, 5) for _ in range(most // 2)]
                first = second = lines[0]
                for line in lines[1:]:
                    first, second = ("lesser", first, line), ("lesser", line, second)
                self.assertTrue(self.check(first, second))
                self.check(added(first, NIL), ("greater", second, random_linear(source, names, unit)))
                hinges = [random_term(source, 1, names, unit) for _ in range(most // 2)]
                self.assertTrue(self.check(added(*hinges), added(*hinges[::-1])))
                tower = with_signs(most, lines)
                self.check(tower, random_linear(source, names, unit))

    def test_great_numbers(self):
        # Where the first term is above, the numbers lie close together, with coefficients up to what 1,000 words hold.
        for a, b in ((150, 151), (230, 1), (249, 248)):
            first = ("lesser", less(times(a, X), times(b, Y)), less(times(b + 1, Y), times(a, X)))
            if is_term(first):
                self.assertFalse(self.check(first, NIL))
        narrow = ("lesser", less(times_flat(100, X), times_flat(99, Y)), less(times_flat(98, Y), times_flat(97, X)))
        self.check(narrow, ("greater", NIL, times_flat(3, X)))
        three = ("lesser", ("lesser", less(times_flat(60, X), times_flat(59, Y)), less(times_flat(58, Y), times_flat(57, Z))),
                 less(times_flat(56, Z), times_flat(54, X)))
        self.check(three, NIL)
        self.check(NIL, three)
        unit = ("lesser", less(times_flat(80, X), times_flat(79, UNIT)), less(times_flat(77, UNIT), times_flat(76, Y)))
        self.check(unit, less(Y, X))

    def test_rows_of_any_width(self):
        source = random.Random(263)
        for first, second in NEVER_ABOVE:
            names = names_of(first, second)
            for _ in range(30):
                width = source.randint(1, 4)
                rows = tuple(tuple(source.randint(-2, 2) for _ in range(width)) for _ in names)
                unit = max((0,) * width, tuple(source.randint(-2, 2) for _ in range(width)))
                self.assertLessEqual(term_row(first, names, rows, unit), term_row(second, names, rows, unit))
                numbers = [Fraction(source.randint(-20, 20), 7) for _ in names]
                self.assertLessEqual(amount(first, names, numbers, Fraction(3, 5)),
                                     amount(second, names, numbers, Fraction(3, 5)))


def times_flat(count, term):
    """So many times a term, put together so that it is not deep."""
    terms = [term] * count
    while len(terms) > 1:
        terms = [("sum",) + tuple(terms[k:k + 2]) if k + 1 < len(terms) else terms[k] for k in range(0, len(terms), 2)]
    return terms[0]


class Alike(unittest.TestCase):
    def test_by_hand(self):
        for first, second, alike in ((X, X, True), (X, Y, False), (NIL, less(X, X), True), (UNIT, NIL, False),
                                     (ABS, ("greater", opposite(X), X), True), (added(X, X), times(2, X), True),
                                     (added(("lesser", X, Y), ("greater", X, Y)), added(X, Y), True),
                                     (opposite(("lesser", X, Y)), ("greater", opposite(X), opposite(Y)), True),
                                     (("lesser", X, NIL), X, False), (X, ("lesser", X, NIL), False),
                                     (("lesser", UNIT, NIL), NIL, True), (("greater", UNIT, NIL), UNIT, True)):
            self.assertIs(groups.are_terms_alike(first, second), alike)
            self.assertIs(groups.are_terms_alike(second, first), alike)

    def test_both_ways(self):
        source = random.Random(264)
        for _ in range(80):
            first, second = [random_term(source, source.randrange(3), ("x", "y"), False, 2) for _ in range(2)]
            both = groups.is_never_above(first, second) and groups.is_never_above(second, first)
            self.assertIs(groups.are_terms_alike(first, second), both)


class Judging(unittest.TestCase):
    def shows(self, first, second, value):
        found = groups.shows_never_above(first, second, value)
        self.assertIs(type(found), bool)
        self.assertIs(found, judged_term(first, second, value), (first, second, value))
        return found

    def test_greater_multiples(self):
        for first, second in NEVER_ABOVE:
            for factor in (2, 10 ** 30):
                self.assertTrue(self.shows(first, second, greater(groups.never_above(first, second), factor)))

    def test_not_plain(self):
        value = ((("split",), ("sum", 1, (0, 0, 0)), ("sum", 1, (0, 0, 0))),) * 2
        self.assertTrue(self.shows(("lesser", X, X), X, value))
        value = ((("split",), ("sum", 1, (0, 0, 0)), ("sum", 1, (0, 0, 0))),) + ((("is", "most", 1, (0, 0)),
                                                                               ("sum", 1, (0, 0))),)
        self.assertTrue(self.shows(("lesser", X, X), X, value))
        self.assertFalse(judged_term(("lesser", X, X), X, value, True))
        self.assertFalse(self.shows(("lesser", X, X), X, ((("empty", (0, 0)),),) * 2))

    def test_wrong_at_one_place(self):
        for first, second in NEVER_ABOVE:
            value = groups.never_above(first, second)
            if len(str(value)) > 700:
                continue
            wrong = sum(not self.shows(first, second, other) for other in changed_once(value))
            self.assertGreater(wrong, 5)

    def test_of_others(self):
        values = [groups.never_above(first, second) for first, second in NEVER_ABOVE]
        for first, second in NEVER_ABOVE + ABOVE:
            for value in values:
                self.shows(first, second, value)

    def test_other_kinds(self):
        for value in (None, True, 0, "sum", (), ((),), ((), ()), (("sum", 1, (0, 0)),), (None, None), ("ab", "cd"),
                      ((("sum", True, (0, 0)),),) * 2, ((("sum", 1, None),),) * 2, ((("sum", 1, (0, 0, 0)),),) * 2,
                      ((("sum", 1, (0,)),),) * 2, ((("sum", 0, (0, 0)),),) * 2, ((("sum", -1, (0, 0)),),) * 2,
                      ((("sum", 1, (0, 0)),),), ((("sum", 1, (0, 0)),),) * 3):
            self.assertFalse(self.shows(X, X, value), value)
        self.assertTrue(self.shows(X, X, ((("sum", 1, (0, 0)),),) * 2))
        self.assertTrue(self.shows(NIL, NIL, ((("sum", 1, (0,)),),)))
        self.assertTrue(self.shows(NIL, UNIT, ((("sum", 1, (1,)),),)))
        self.assertFalse(self.shows(NIL, UNIT, ((("sum", 1, (0,)),),)))


class Bounds(unittest.TestCase):
    FUNCTIONS = (groups.is_never_above, groups.are_terms_alike, groups.never_above, groups.above_numbers,
                 lambda first, second: groups.shows_never_above(first, second, None))
    SIGNS = (([NIL], 24), ([UNIT], 24), ([X], 24), ([X, UNIT], 24), ([X, Y], 24), ([X, Y, UNIT], 12), ([X, Y, Z], 12))

    def test_unknowns(self):
        for function in self.FUNCTIONS:
            for leaves in ([X, Y, Z, W], [X, Y, Z, UNIT], [X, Y, Z, W, UNIT]):
                for signs in (5, 30):
                    check_raises(self, errors.TooMany, {"what": "unknowns"}, function, with_signs(signs, leaves), NIL)
                    check_raises(self, errors.TooMany, {"what": "unknowns"}, function, with_signs(signs, leaves[:2]),
                                 added(*leaves[2:]))
            check_raises(self, errors.TooMany, {"what": "unknowns"}, function, added(X, Y, Z), UNIT)
            # An unknown may have the name `unit`.
            function(added(X, Y, ("unknown", "unit")), NIL)

    def test_signs(self):
        for function in self.FUNCTIONS:
            for leaves, most in self.SIGNS:
                rest = added(*leaves)
                for k in (0, 5, most):
                    check_raises(self, errors.TooMany, {"what": "signs"}, function,
                                 added(rest, with_signs(k, leaves)), with_signs(most + 1 - k, leaves))
                function(added(rest, with_signs(most - 7, leaves)), with_signs(7, leaves))
                function(with_signs(most, leaves), rest)

    def test_great_terms_without_signs(self):
        for function in self.FUNCTIONS:
            function(times_flat(500, X), times_flat(500, Y))

    def test_other_words_are_not_counted(self):
        term = X
        for _ in range(30):
            term = opposite(("sum", term, Y))
        self.assertTrue(groups.is_never_above(term, term))


class EveryChoice(unittest.TestCase):
    def test_choices_in_ascending_order(self):
        # Which entry belongs to which choice is seen where the goal is another one for each.
        first, second = NIL, added(("greater", X, opposite(X)), ("greater", Y, opposite(Y)))
        value = groups.never_above(first, second)
        for k, (_, sides) in enumerate(zip(value, itertools.product(("most", "least"), repeat=2))):
            self.assertEqual([row[1] for row in value[k] if row[0] == "is"], list(sides))
