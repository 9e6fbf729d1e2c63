import random
import unittest
from fractions import Fraction

from halftruths import errors, trees
from tests.helpers import (NO, W, X, Y, YES, Z, check_bounded, check_bounded_pair, check_raises, form_worth, grid,
                           names_of, neg, nots, random_saying, tree_of, vertices, with_marks, worth)


class Pieces(unittest.TestCase):
    def test_examples(self):
        self.assertEqual(trees.pieces((("plus", X, X),)), ((((-1, 2),), ((1, 0),)), (((1, -2),), ((0, 2),))))

    def test_no_unknowns(self):
        self.assertEqual(trees.pieces((YES,)), (((), ((1,),)),))
        self.assertEqual(trees.pieces((("and", YES, neg(YES)), NO, YES)), (((), ((0,), (0,), (1,))),))

    def test_nothing_asked(self):
        self.assertEqual(trees.pieces((neg(X), Y, YES)), (((), ((1, -1, 0), (0, 0, 1), (1, 0, 0))),))
        self.assertEqual(trees.pieces((nots(X, 60),)), (((), ((0, 1),)),))

    def test_one_side(self):
        # x - x is 0 throughout, so at least 0; x - 1 is not.
        self.assertEqual(trees.pieces((("leads", X, X),)), (((), ((1, 0),)),))
        self.assertEqual(trees.pieces((("and", X, X),)), (((), ((0, 1),)),))
        self.assertEqual(trees.pieces((("and", X, YES),)), (((), ((0, 1),)),))
        self.assertEqual(trees.pieces((("plus", X, NO),)), (((), ((0, 1),)),))
        self.assertEqual(trees.pieces((("times", X, YES),)), (((), ((0, 1),)),))
        self.assertEqual(trees.pieces((("same", X, NO),)), (((), ((1, -1),)),))

    def test_each_occurrence_asks(self):
        twice = ("plus", X, X)
        self.assertEqual(trees.pieces((("and", twice, twice),)), ((((-1, 2),), ((1, 0),)), (((1, -2),), ((0, 2),))))
        self.assertEqual(trees.pieces((twice, ("times", X, X))),
                         ((((-1, 2),), ((1, 0), (-1, 2))), (((1, -2),), ((0, 2), (0, 0)))))

    def test_order_of_branches(self):
        saying = ("or", X, ("and", X, Y))
        self.assertEqual(trees.pieces((saying,)),
                         ((((0, 1, -1),), ((0, 1, 0),)), (((0, -1, 1),), ((0, 1, 0),))))
        sayings = (("and", X, Y), ("times", X, Y))
        low, high = (0, 1, -1), (-1, 1, 1)
        self.assertEqual(trees.pieces(sayings), (
            ((low, high), ((0, 0, 1), high)), ((low, (1, -1, -1)), ((0, 0, 1), (0, 0, 0))),
            (((0, -1, 1), high), ((0, 1, 0), high)), (((0, -1, 1), (1, -1, -1)), ((0, 1, 0), (0, 0, 0)))))

    def test_at_random(self):
        source = random.Random(7)
        for _ in range(60):
            names = ["x", "y", "z"][:source.randrange(4)]
            marks = [12, 12, 9, 6][len(names)] - source.randrange(3)
            first = source.randrange(marks + 1)
            sayings = (random_saying(source, first, names), random_saying(source, marks - first, names))
            told = trees.pieces(sayings)
            used = names_of(*sayings)
            self.assertEqual(told, tuple(piece for piece, _ in tree_of(sayings, used)))
            self.check_values(told, sayings, used)

    def check_values(self, told, sayings, names):
        for place in grid(len(names), 4):
            inside = [forms for path, forms in told if all(form_worth(form, place) >= 0 for form in path)]
            self.assertTrue(inside)
            for forms in inside:
                for saying, form in zip(sayings, forms):
                    self.assertEqual(form_worth(form, place), worth(saying, names, place))

    def test_bounds(self):
        check_bounded(self, errors, lambda saying: trees.pieces((saying,)))
        check_bounded_pair(self, errors, lambda first, second: trees.pieces((first, second)))
        many = tuple([("and", X, X)] * 12)
        self.assertEqual(trees.pieces(many), (((), ((0, 1),) * 12),))
        check_raises(self, errors.TooMany, {"what": "marks"}, trees.pieces, many + (("or", YES, NO),))
        check_raises(self, errors.TooMany, {"what": "unknowns"}, trees.pieces, (X, Y, Z, W))
        self.assertEqual(len(trees.pieces((X,) * 200)), 1)


class FormsTaken(unittest.TestCase):
    def test_by_hand(self):
        self.assertEqual(trees.forms_taken(("plus", X, X), ("x",)), ((0, 2), (1, 0)))
        self.assertEqual(trees.forms_taken(("and", X, Y), ("x", "y")), ((0, 0, 1), (0, 1, 0)))
        self.assertEqual(trees.forms_taken(("or", X, ("and", X, Y)), ("x", "y")), ((0, 1, 0),))
        self.assertEqual(trees.forms_taken(YES, ()), ((1,),))

    def test_other_names(self):
        self.assertEqual(trees.forms_taken(("plus", X, Y), ("y", "z", "x")), ((0, 1, 0, 1), (1, 0, 0, 0)))
        self.assertEqual(trees.forms_taken(NO, ("x", "y")), ((0, 0, 0),))
        self.assertEqual(trees.forms_taken(neg(X), ("y", "x")), ((1, 0, -1),))

    def test_at_random(self):
        source = random.Random(8)
        for _ in range(40):
            names = ("z", "x", "y")[:source.randrange(1, 4)]
            saying = random_saying(source, source.randrange(1, 7), names)
            told = trees.forms_taken(saying, names)
            self.assertEqual(told, tuple(sorted({forms[0] for (_, forms), _ in tree_of((saying,), names)})))
            self.assertEqual(trees.forms_taken(neg(neg(saying)), names), told)

    def test_alike_sayings(self):
        for first, second in ((("or", X, Y), ("leads", ("leads", X, Y), Y)),
                              (("plus", X, Y), ("leads", neg(X), Y)),
                              (("same", X, Y), ("and", ("leads", X, Y), ("leads", Y, X)))):
            self.assertEqual(trees.forms_taken(first, ("x", "y")), trees.forms_taken(second, ("x", "y")))

    def test_unknown_name(self):
        saying = ("and", Z, ("or", X, Y))
        check_raises(self, errors.UnknownName, {"name": "z"}, trees.forms_taken, saying, ("x", "y"))
        check_raises(self, errors.UnknownName, {"name": "x"}, trees.forms_taken, saying, ("z",))
        check_raises(self, errors.UnknownName, {"name": "x"}, trees.forms_taken, with_marks(50, [X, Y]),
                     ("a", "b", "c", "d"))

    def test_bounded_by_the_names(self):
        many = errors.TooMany
        check_raises(self, many, {"what": "unknowns"}, trees.forms_taken, X, ("x", "y", "z", "w"))
        check_raises(self, many, {"what": "unknowns"}, trees.forms_taken, with_marks(13, [X]), ("x", "y", "z", "w"))
        for names, most in (((), 12), (("x",), 12), (("y", "x"), 9), (("x", "y", "z"), 7)):
            leaf = X if names else YES
            trees.forms_taken(with_marks(most, [leaf]), names)
            check_raises(self, many, {"what": "marks"}, trees.forms_taken, with_marks(most + 1, [leaf]), names)


class Cells(unittest.TestCase):
    def test_cells_of_pieces_have_inner_points(self):
        source = random.Random(9)
        for _ in range(20):
            saying = random_saying(source, 7, ["x", "y"])
            for path, _ in trees.pieces((saying,)):
                corners = vertices(path, len(names_of(saying)))
                middle = [sum(numbers) / Fraction(len(corners)) for numbers in zip(*corners)]
                self.assertTrue(all(form_worth(form, middle) > 0 for form in path))
