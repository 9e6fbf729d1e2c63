import itertools
import random
import unittest

from halftruths import chaintrees, errors
from halftruths.orders import order_valid
from halftruths.productvalid import is_product_valid
from halftruths.sayings import marks_in
from halftruths.validity import is_valid
from tests.chaining import TOP, holds, is_top, placements, plain_grade, step_grades
from tests.helpers import NO, W, X, Y, YES, Z, check_raises, names_of, neg, nots, parts_first
from tests.meanings import plus_in_each_place, random_meant, with_meant_marks
from tests.test_productvalid import changed_once

NAMES = ("x", "y", "z")
PRELINEAR = ("or", ("leads", X, Y), ("leads", Y, X))
DIVIDE = ("same", ("and", X, Y), ("times", X, ("leads", X, Y)))
THREE = ("leads", ("times", ("leads", X, Y), ("leads", Y, Z)), ("leads", X, Z))
VALID = (YES, neg(NO), ("leads", X, X), ("leads", ("times", X, Y), X), PRELINEAR, DIVIDE, THREE, ("leads", NO, X),
         ("same", X, X), ("same", ("times", X, Y), ("times", Y, X)), ("leads", X, neg(neg(X))), ("leads", X, YES),
         ("same", ("leads", X, ("leads", Y, Z)), ("leads", ("times", X, Y), Z)), ("same", neg(X), ("leads", X, NO)),
         ("leads", ("and", X, Y), ("or", X, Z)), ("same", neg(neg(neg(X))), neg(X)), ("leads", ("same", X, Y), ("leads", X, Y)),
         ("leads", ("leads", ("leads", X, Y), Z), ("leads", ("leads", ("leads", Y, X), Z), Z)))
NOT_VALID = (NO, X, neg(X), neg(neg(X)), ("or", X, neg(X)), ("leads", neg(neg(X)), X), ("leads", X, ("times", X, X)),
             ("leads", X, Y), ("same", X, Y), ("or", neg(X), neg(neg(X))), ("leads", ("and", X, Y), ("times", X, Y)),
             ("leads", ("leads", X, ("times", X, Y)), Y), ("leads", ("leads", ("leads", X, Y), Y), ("or", X, Y)),
             ("leads", ("leads", ("leads", X, Y), Y), ("leads", ("leads", Y, X), X)), ("leads", Z, ("and", X, Y)))
# At the top unless x is just the middle of piece 0 and y lies in a higher piece.
MIDDLE = ("or", ("leads", neg(neg(Y)), Y), ("leads", ("same", X, neg(X)), Y))


def marks_of(saying):
    return sum(word[0] not in ("unknown", "yes", "no") for word in parts_first(saying))


class Valid(unittest.TestCase):
    def check(self, saying):
        names = names_of(saying)
        kinds = ("sum",) * (len(names) + 1)
        valid = chaintrees.chain_valid(saying)
        self.assertIs(type(valid), bool)
        certificate = chaintrees.chain_certificate(saying)
        parting = chaintrees.chain_parting(saying)
        if valid:
            self.assertIsNone(parting)
            self.assertTrue(holds(saying, certificate), (saying, certificate))
            self.assertIs(chaintrees.chain_holds(saying, certificate), True)
            for grades in step_grades(len(names), 2, min(len(kinds), 3)):
                self.assertTrue(is_top(saying, kinds, names, grades))
        else:
            self.assertIsNone(certificate)
            self.check_parting(saying, parting)
        return valid

    def check_parting(self, saying, parting):
        names = names_of(saying)
        self.assertIs(type(parting), tuple)
        self.assertEqual(len(parting), len(names))
        for grade in parting:
            if grade != TOP:
                self.assertTrue(grade[0] == "in" and 0 <= grade[1] <= len(names) and plain_grade(grade)[1] < 1)
        self.assertFalse(is_top(saying, ("sum",) * (len(names) + 1), names, parting))

    def test_valid_ones(self):
        for saying in VALID:
            self.assertTrue(self.check(saying), saying)

    def test_others(self):
        for saying in NOT_VALID + (MIDDLE,):
            self.assertFalse(self.check(saying), saying)

    def test_at_random(self):
        source = random.Random(231)
        valid = 0
        for count, marks, tries in ((0, 5, 20), (1, 5, 120), (2, 4, 120), (3, 3, 60)):
            for _ in range(tries):
                saying = random_meant(source, source.randrange(marks + 1), NAMES[:count], 0.15)
                saying = ("leads", saying, random_meant(source, 1, NAMES[:count], 0.1))
                if marks_of(saying) <= (7 if count == 3 else 10):
                    valid += self.check(saying)
        self.assertTrue(20 < valid < 250, valid)

    def test_great_ones(self):
        source = random.Random(232)
        for count, marks in ((1, 10), (2, 10), (3, 7)):
            for _ in range(25):
                self.check(random_meant(source, marks, NAMES[:count], 0))
                half = random_meant(source, (marks - 2) // 2, NAMES[:count], 0)
                self.assertTrue(self.check(("leads", ("times", half, X), half)))
        self.assertTrue(self.check(nots(("leads", X, X), 8)))
        self.assertTrue(self.check(("and", DIVIDE, PRELINEAR)))

    def test_valid_everywhere_else(self):
        # What is valid in chains of chains is so from 0 to 1, by order and by products.
        source = random.Random(233)
        found = 0
        for count in (1, 2, 3):
            for _ in range(100):
                saying = ("leads", random_meant(source, 2, NAMES[:count], 0.1), random_meant(source, 1, NAMES[:count], 0))
                if marks_of(saying) <= 7 and chaintrees.chain_valid(saying):
                    found += 1
                    self.assertTrue(is_valid(saying) and order_valid(saying) and is_product_valid(saying), saying)
        self.assertGreater(found, 15)

    def test_all_kinds_of_pieces(self):
        for saying in VALID:
            names = names_of(saying)
            for size in range(1, 4):
                for kinds in itertools.product(("sum", "product", "step"), repeat=size):
                    grades = step_grades(len(names), 2 if len(names) == 3 else 3, size)
                    for chosen in grades[::max(1, len(grades) // 60)]:
                        self.assertTrue(is_top(saying, kinds, names, chosen))


class Steps(unittest.TestCase):
    def is_valid_in(self, saying, steps):
        names = names_of(saying)
        return all(is_top(saying, ("sum",) * 4, names, grades)
                   for grades in step_grades(len(names), steps, len(names) + 1))

    def test_by_hand(self):
        for saying in (YES, NO, X, neg(X), ("or", X, neg(X)), ("leads", X, ("times", X, X)), ("leads", neg(neg(X)), X),
                       ("or", neg(X), neg(neg(X))), PRELINEAR, ("leads", ("and", X, Y), ("times", X, Y))):
            for steps in range(1, 9):
                if len(names_of(saying)) < 2 or steps < 4:
                    self.assertIs(chaintrees.chain_valid_in(saying, steps), self.is_valid_in(saying, steps))
        for steps in (1, 2, 3):
            self.assertIs(chaintrees.chain_valid_in(THREE, steps), True)
            self.assertIs(chaintrees.chain_valid_in(("leads", ("and", X, Y), ("times", Z, Y)), steps), False)

    def test_odd_ones(self):
        for steps in range(1, 9):
            self.assertIs(chaintrees.chain_valid_in(MIDDLE, steps), steps % 2 == 1)

    def test_at_random(self):
        source = random.Random(234)
        found = {True: 0, False: 0}
        for count, marks, tries, most in ((0, 5, 10, 8), (1, 6, 60, 8), (2, 4, 60, 4), (3, 3, 25, 2)):
            for _ in range(tries):
                saying = ("leads", random_meant(source, marks - 2, NAMES[:count], 0.1),
                          random_meant(source, 1, NAMES[:count], 0))
                steps = source.randint(1, most)
                if marks_of(saying) > 7:
                    continue
                valid = chaintrees.chain_valid_in(saying, steps)
                found[valid] += 1
                self.assertIs(valid, self.is_valid_in(saying, steps), (saying, steps))
                self.assertIs(chaintrees.chain_valid_in(saying, 1), order_valid(saying))
                if chaintrees.chain_valid(saying):
                    self.assertTrue(valid)
        self.assertTrue(min(found.values()) > 15, found)

    def test_valid_if_in_all(self):
        for saying in VALID:
            for steps in range(1, 9 if len(names_of(saying)) < 3 else 4):
                self.assertIs(chaintrees.chain_valid_in(saying, steps), True)

    def test_errors_in_their_order(self):
        for steps in (-1, 0, 9, 10 ** 20):
            for saying in (YES, X, ("and", X, Y)):
                check_raises(self, errors.OutOfRange, {"value": steps}, chaintrees.chain_valid_in, saying, steps)
        for steps in (0, 4, 8, 9):
            check_raises(self, errors.OutOfRange, {"value": steps}, chaintrees.chain_valid_in, THREE, steps)
        self.assertIs(chaintrees.chain_valid_in(THREE, 3), True)
        self.assertIs(chaintrees.chain_valid_in(DIVIDE, 8), True)


class Judging(unittest.TestCase):
    def holds(self, saying, value):
        found = chaintrees.chain_holds(saying, value)
        self.assertIs(type(found), bool)
        self.assertIs(found, holds(saying, value), (saying, value))
        return found

    def test_by_hand(self):
        tree = ("ask", ("ask", TOP, ("empty", (0, 0, 0, 0, 1, 0, 1))), ("ask", TOP, ("empty", (0, 1, 0, 0, 0, 0, 1))))
        saying = ("leads", ("times", X, Y), X)
        value = tuple(tree if levels in ((0, 0), (1, 1)) else TOP for levels in placements(2))
        self.assertTrue(self.holds(saying, value))
        self.assertFalse(self.holds(saying, value[1:]))
        self.assertFalse(self.holds(saying, value + (TOP,)))
        self.assertTrue(self.holds(YES, (TOP,)))
        self.assertFalse(self.holds(NO, (TOP,)))
        self.assertFalse(self.holds(YES, (("empty", (0,)),)))
        self.assertFalse(self.holds(NO, (("empty", (1,)),)))
        self.assertTrue(self.holds(("leads", X, X), (TOP,) * 3))

    def test_questions_that_are_answered(self):
        # x >= 0 is asked for not x, though it is a condition already; a question without unknowns is not asked.
        saying = ("or", neg(X), neg(neg(X)))
        self.assertFalse(chaintrees.chain_valid(saying))
        doubled = ("leads", NO, X)
        value = (("ask", TOP, ("empty", (0, 1, 0, 1))), TOP, TOP)
        self.assertTrue(self.holds(doubled, value))
        self.assertFalse(self.holds(doubled, (TOP, TOP, TOP)))
        self.assertFalse(self.holds(("leads", X, X), (("ask", TOP, TOP), TOP, TOP)))

    def test_told_empty(self):
        # A branch may be told to be empty at a question and at the end, whatever the result.
        saying = ("leads", NO, ("leads", NO, X))
        value = chaintrees.chain_certificate(saying)
        self.assertTrue(self.holds(saying, value))
        early = ("ask", TOP, ("empty", (0, 1, 0, 1)))
        self.assertTrue(self.holds(saying, (early, TOP, TOP)))
        late = ("ask", TOP, ("ask", ("empty", (0, 1, 0, 1, 0)), ("empty", (0, 1, 0, 1, 0))))
        self.holds(saying, (late, TOP, TOP))
        twice = ("times", ("leads", NO, X), ("leads", NO, X))
        asked = ("ask", ("ask", TOP, ("empty", (0, 1, 0, 0, 1))), ("empty", (0, 1, 0, 1)))
        self.assertTrue(self.holds(twice, (asked, TOP, TOP)))
        longer = ("ask", asked[1], ("ask", ("empty", (0, 2, 0, 2, 0)), ("empty", (0, 3, 0, 3, 0))))
        self.holds(twice, (longer, TOP, TOP))
        # Here the second question stands in the branch that is empty, too: answered there, all is gone along.
        other = ("and", ("leads", NO, X), ("leads", NO, X))
        self.holds(other, (asked, TOP, TOP))
        # Multiples that are 0 in all, or only for what is not strict, show nothing.
        for multiples in ((0, 0, 0, 0), (0, 1, 0, 0), (1, 0, 0, 0), (0, 1, 0), (0, 1, 0, 1, 0), (0, 2, 0, 1)):
            self.assertFalse(self.holds(("leads", NO, X), (("ask", TOP, ("empty", multiples)), TOP, TOP)))
        for factor in (2, 10 ** 40):
            self.assertTrue(self.holds(("leads", NO, X), (("ask", TOP, ("empty", (0, factor, 0, factor))), TOP, TOP)))

    def test_empty_where_all_is_one(self):
        # ("empty", ..) is right at the end of a branch also where the result is the top.
        saying = ("or", YES, ("leads", X, NO))
        value = chaintrees.chain_certificate(saying)
        self.assertTrue(self.holds(saying, value))
        both = ("or", ("leads", NO, X), YES)
        self.assertTrue(self.holds(both, (("ask", TOP, TOP), TOP, TOP)))
        self.assertTrue(self.holds(both, (("ask", TOP, ("empty", (0, 1, 0, 1))), TOP, TOP)))
        self.assertFalse(self.holds(both, (("ask", ("empty", (0, 1, 0, 1)), TOP), TOP, TOP)))

    def test_wrong_at_one_place(self):
        for saying in (YES, ("leads", X, X), ("leads", NO, X), ("leads", ("times", X, Y), X), ("same", neg(X), ("leads", X, NO)),
                       ("leads", X, neg(neg(X)))):
            value = chaintrees.chain_certificate(saying)
            wrong = 0
            for other in changed_once(value):
                wrong += not self.holds(saying, other)
            self.assertGreater(wrong, 10)

    def test_of_others(self):
        values = [chaintrees.chain_certificate(saying) for saying in VALID if len(names_of(saying)) < 3]
        for saying in VALID + NOT_VALID:
            for value in values:
                self.holds(saying, value)

    def test_other_kinds(self):
        for value in (None, True, 0, "one", (), (None,), ("one",), (("one",), 0), ((),), (("ask",),), ("ask", TOP, TOP),
                      (("ask", TOP, TOP),), (("empty",),), (("empty", None),), (("empty", (1, 2)),), (1, 2, 3),
                      ("abc",), (True, False, None), (("one", "one"),) * 3, ((("one",),),), (("empty", (True,)),)):
            self.assertFalse(self.holds(YES, value), value)
            self.assertFalse(self.holds(("leads", X, X), value), value)
            self.assertFalse(self.holds(("leads", NO, X), value), value)

    def test_deep_and_long_values(self):
        deep = TOP
        for _ in range(118):
            deep = ("ask", deep, TOP)
        self.assertFalse(self.holds(YES, (deep,)))
        self.assertFalse(self.holds(("leads", NO, X), (deep, TOP, TOP)))
        self.assertFalse(self.holds(("leads", NO, X), (("empty", (1,) * 5900), TOP, TOP)))


class Bounds(unittest.TestCase):
    FUNCTIONS = (chaintrees.chain_valid, chaintrees.chain_parting, chaintrees.chain_certificate,
                 lambda saying: chaintrees.chain_holds(saying, None),
                 lambda saying: chaintrees.chain_valid_in(saying, 0))

    def test_in_their_order(self):
        for function in self.FUNCTIONS:
            for bad in plus_in_each_place():
                check_raises(self, errors.WrongMark, {"mark": "plus"}, function, bad)
                check_raises(self, errors.WrongMark, {"mark": "plus"}, function, with_meant_marks(20, [X, Y, Z, W, bad]))
            check_raises(self, errors.TooMany, {"what": "unknowns"}, function, with_meant_marks(3, [X, Y, Z, W]))
            check_raises(self, errors.TooMany, {"what": "unknowns"}, function, with_meant_marks(30, [X, Y, Z, W]))
            for leaves, most in (([YES, NO], 10), ([X], 10), ([X, Y], 10), ([X, Y, Z], 7)):
                check_raises(self, errors.TooMany, {"what": "marks"}, function, with_meant_marks(most + 1, leaves))
                check_raises(self, errors.TooMany, {"what": "marks"}, function, nots(with_meant_marks(most - 2, leaves), 3))
            check_raises(self, errors.TooMany, {"what": "marks"}, function, nots(X, 11))

    def test_just_kept(self):
        for function in self.FUNCTIONS[:4]:
            for leaves, most in (([YES, NO], 10), ([X], 10), ([X, Y], 10), ([X, Y, Z], 7)):
                function(with_meant_marks(most, leaves))
                function(nots(with_meant_marks(most - 3, leaves), 3))
            function(nots(X, 10))
        self.assertEqual(marks_in(MIDDLE), 4)
