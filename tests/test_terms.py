import random
import unittest
from fractions import Fraction

from halftruths import errors, terms
from tests.helpers import X, Y, Z, check_raises, names_of
from tests.termcones import NIL, UNIT, added, amount, less, opposite, random_term

NAMES = ("x", "y", "z")


def deep(depth):
    term = X
    for _ in range(depth):
        term = opposite(term)
    return term


def wide(words):
    """A term with so many words, from 3 on."""
    leaves = [X, Y, NIL, UNIT] * words
    term = leaves[: (words + 1) // 2]
    while len(term) > 1:
        term = [("sum",) + tuple(term[k:k + 2]) if k + 1 < len(term) else term[k] for k in range(0, len(term), 2)]
    return term[0] if words % 2 else opposite(term[0])


class IsTerm(unittest.TestCase):
    def test_right_ones(self):
        for value in (X, NIL, UNIT, opposite(X), ("sum", X, NIL), ("lesser", X, UNIT), ("greater", opposite(Y), X),
                      ("unknown", "nil"), ("unknown", "unit"), ("unknown", "sum"), ("unknown", "minus"),
                      ("unknown", "lesser"), ("unknown", "a1b2c3d4"), deep(60), wide(999), wide(1000)):
            self.assertIs(terms.is_term(value), True)

    def test_wrong_ones(self):
        for value in (None, True, 0, "nil", (), ("nil", X), ("unit", NIL), ("yes",), ("no",), ("not", X), ("plus", X, Y),
                      ("times", X, Y), ("minus",), ("minus", X, Y), ("sum", X), ("sum", X, Y, Z), ("unknown",),
                      ("unknown", "yes"), ("unknown", "plus"), ("unknown", "X"), ("unknown", "abcdefghi"),
                      ("unknown", ""), ("unknown", X), ("sum", X, ("and", X, Y)), ("lesser", X, 0), ("Sum", X, Y),
                      (NIL,), ("minus", "x"), (("sum",), X, Y), (None,), (True, X), ("minus", None), (0, X, Y),
                      deep(61), wide(1001), wide(1002), opposite(wide(1000))):
            self.assertIs(terms.is_term(value), False)

    def test_nested_deep(self):
        self.assertIs(terms.is_term(deep(118)), False)
        shared = X
        for _ in range(60):
            shared = ("sum", shared, shared)
        self.assertIs(terms.is_term(shared), False)


class Unknowns(unittest.TestCase):
    def test_order(self):
        self.assertEqual(terms.term_unknowns(()), ())
        self.assertEqual(terms.term_unknowns((NIL, UNIT)), ())
        self.assertEqual(terms.term_unknowns((less(Y, X), ("lesser", Z, Y))), ("y", "x", "z"))
        self.assertEqual(terms.term_unknowns((("greater", opposite(Z), NIL), X, Z)), ("z", "x"))
        self.assertEqual(terms.term_unknowns((("unknown", "unit"), UNIT, ("unknown", "nil"))), ("unit", "nil"))
        source = random.Random(251)
        for _ in range(50):
            tried = tuple(random_term(source, source.randrange(5), NAMES, True) for _ in range(3))
            self.assertEqual(terms.term_unknowns(tried), names_of(*tried))


class Rows(unittest.TestCase):
    def test_by_hand(self):
        row = terms.term_row
        self.assertEqual(row(NIL, (), (), (0,)), (0,))
        self.assertEqual(row(NIL, (), (), (1, -5, 0, 2)), (0, 0, 0, 0))
        self.assertEqual(row(UNIT, (), (), (1, -5)), (1, -5))
        self.assertEqual(row(X, ("x",), ((3, 4),), (0, 0)), (3, 4))
        self.assertEqual(row(opposite(X), ("x",), ((3, -4),), (0, 0)), (-3, 4))
        self.assertEqual(row(("lesser", X, UNIT), ("x",), ((1, -6),), (1, -5)), (1, -6))
        self.assertEqual(row(("greater", X, UNIT), ("x",), ((0, 99),), (1, -5)), (1, -5))
        self.assertEqual(row(("greater", X, NIL), ("x",), ((0, -1),), (0, 1)), (0, 0))
        self.assertEqual(row(less(X, Y), ("y", "x"), ((1, 2), (10, 20)), (0, 0)), (9, 18))
        self.assertEqual(row(("unknown", "nil"), ("nil",), ((7,),), (1,)), (7,))
        self.assertEqual(row(less(("unknown", "unit"), UNIT), ("unit",), ((7,),), (1,)), (6,))
        self.assertEqual(row(X, ("a", "x", "b"), ((1,), (2,), (3,)), (0,)), (2,))
        great = 10 ** 50
        self.assertEqual(row(added(X, X, UNIT), ("x",), ((great,),), (1,)), (2 * great + 1,))

    def test_at_random(self):
        # Rows in a row: with each integer far less than the one before, a row is like one number.
        source = random.Random(252)
        base = 10 ** 6
        for width in range(1, 5):
            for _ in range(60):
                term = random_term(source, source.randrange(7), NAMES, True)
                rows = [tuple(source.randint(-3, 3) for _ in range(width)) for _ in NAMES]
                unit = (source.randrange(2),) + tuple(source.randint(-3, 3) for _ in range(width - 1))
                if unit < (0,) * width:
                    continue
                numbers = [sum(Fraction(n, base ** k) for k, n in enumerate(row)) for row in rows + [unit]]
                told = terms.term_row(term, NAMES, tuple(rows), unit)
                self.assertEqual(len(told), width)
                self.assertEqual(sum(Fraction(n, base ** k) for k, n in enumerate(told)),
                                 amount(term, NAMES, numbers[:-1], numbers[-1]))

    def test_great_terms(self):
        self.assertEqual(terms.term_row(deep(60), ("x",), ((5,),), (1,)), (5,))
        self.assertEqual(terms.term_row(deep(59), ("x",), ((5,),), (1,)), (-5,))
        term = wide(999)
        self.assertEqual(terms.term_row(term, ("x", "y"), ((1,), (1,)), (1,)),
                         (amount(term, ("x", "y"), (1, 1), 1),))

    def test_errors(self):
        for term, names, name in ((X, (), "x"), (less(Y, X), ("x",), "y"), (added(X, Z, Y), ("x",), "z"),
                                  (("unknown", "nil"), ("x",), "nil")):
            check_raises(self, errors.UnknownName, {"name": name}, terms.term_row, term, names, ((1,),) * len(names),
                         (0,))
