import random
import unittest

from halftruths import errors, validity
from halftruths.values import is_point
from tests.helpers import (NO, W, X, Y, YES, Z, check_bounded, check_plain, check_raises, greater, grid,
                           less_one, names_of, neg, nots, random_saying, with_marks, worth, worth_at)

EXAMPLE = ("leads", ("times", X, X), X)
EXAMPLE_ROWS = (("split",), ("is", "most", 1, (0, 0, 1)), ("sum", 1, (0, 0, 0)),
                ("is", "most", 1, (0, 1, 0)), ("sum", 1, (0, 0, 0)))
VALID = [
    YES, neg(NO), ("leads", X, X), ("leads", X, ("leads", Y, X)), ("same", X, neg(neg(X))), ("plus", X, neg(X)),
    ("leads", ("and", X, Y), X), ("leads", X, ("or", X, Y)), ("leads", ("times", X, Y), ("and", X, Y)),
    ("leads", ("or", X, Y), ("plus", X, Y)), ("or", ("leads", X, Y), ("leads", Y, X)),
    ("leads", ("leads", X, Y), ("leads", ("leads", Y, Z), ("leads", X, Z))),
    ("leads", ("times", X, ("times", Y, Z)), ("times", ("times", X, Y), Z)),
    ("same", ("plus", X, ("plus", Y, Z)), ("plus", ("plus", X, Y), Z)),
    ("same", ("times", X, Y), neg(("leads", X, neg(Y)))), ("leads", NO, YES), ("same", YES, YES),
]


def rows_hold(test, saying, rows, expected=True):
    test.assertIs(validity.is_validity(saying, rows), expected, rows)


class IsValid(unittest.TestCase):
    def test_valid_ones(self):
        for saying in VALID:
            self.assertIs(validity.is_valid(saying), True, saying)
            self.assertIsNone(validity.below_one(saying))

    def test_others(self):
        for saying in (X, NO, neg(YES), ("or", X, neg(X)), ("leads", X, Y), ("leads", X, ("times", X, X)),
                       ("leads", ("plus", X, Y), ("or", X, Y)), ("leads", ("and", X, Y), ("times", X, Y)),
                       ("same", ("times", X, ("or", Y, Z)), ("plus", ("times", X, Y), ("times", X, Z)))):
            self.assertIs(validity.is_valid(saying), False, saying)
            self.assertIsNone(validity.validity(saying))

    def test_at_random(self):
        source = random.Random(10)
        valid = 0
        for _ in range(250):
            names = ["x", "y", "z"][:source.randrange(4)]
            marks = [12, 12, 9, 7][len(names)] - source.randrange(5)
            saying = random_saying(source, marks, names)
            used = names_of(saying)
            point = validity.below_one(saying)
            rows = validity.validity(saying)
            self.assertIs(validity.is_valid(saying), point is None)
            if point is None:
                valid += 1
                for place in grid(len(used), 6):
                    self.assertEqual(worth(saying, used, place), 1)
                check_plain((saying,), used, rows, less_one)
                rows_hold(self, saying, rows)
            else:
                self.assertIsNone(rows)
                self.assertTrue(is_point(point, len(used)))
                self.assertLess(worth_at(saying, used, point), 1)
        self.assertGreater(valid, 20)

    def test_no_unknowns(self):
        self.assertEqual(validity.below_one(NO), ())
        self.assertEqual(validity.validity(YES), (("sum", 1, ()),))
        self.assertEqual(validity.validity(nots(NO, 59)), (("sum", 1, ()),))
        rows = validity.validity(("and", YES, neg(NO)))
        self.assertEqual([row[0] for row in rows], ["is", "sum"])
        self.assertEqual(rows[0][1], "least")
        check_plain((("and", YES, neg(NO)),), (), rows, less_one)

    def test_bounds(self):
        for function in (validity.is_valid, validity.validity, validity.below_one,
                         lambda saying: validity.is_validity(saying, ()),
                         lambda saying: validity.is_validity(saying, "no rows")):
            check_bounded(self, errors, function)


class Validity(unittest.TestCase):
    def test_plain(self):
        for saying in VALID:
            names = names_of(saying)
            rows = validity.validity(saying)
            check_plain((saying,), names, rows, less_one)
            rows_hold(self, saying, rows)
            self.assertEqual(validity.validity(saying), rows)

    def test_example(self):
        rows = validity.validity(EXAMPLE)
        self.assertEqual([row[:2] if row[0] == "is" else row[:1] for row in rows],
                         [row[:2] if row[0] == "is" else row[:1] for row in EXAMPLE_ROWS])
        rows_hold(self, EXAMPLE, EXAMPLE_ROWS)

    def test_each_question_has_its_row(self):
        rows = validity.validity(("or", ("and", X, X), YES))
        self.assertEqual([row[:2] for row in rows[:2]], [("is", "least"), ("is", "most")])
        self.assertEqual(len(rows), 3)


class RightRows(unittest.TestCase):
    """Rows that are right and not plain."""

    def test_idle_split(self):
        saying = ("leads", X, X)
        for low in (("sum", 1, (0, 0, 0)), ("sum", 5, (3, 0, 0)), ("sum", 2, (9, 0, 0))):
            rows_hold(self, saying, (("split",), low, ("sum", 1, (0, 0, 0))))
        self.assertEqual(validity.validity(saying)[0][:2], ("is", "least"))

    def test_idle_split_with_an_empty_branch(self):
        # x - 1 is never above 0, but it is 0 at one place: nothing is empty there.
        saying = ("leads", ("and", X, YES), YES)
        rows_hold(self, saying, (("split",), ("is", "most", 1, (0, 0, 0)), ("sum", 1, (0, 0, 0)),
                                 ("is", "most", 1, (0, 0, 1)), ("sum", 1, (0, 0, 0))))
        # The question 0 - 1 is below 0 throughout.
        empty = ("leads", NO, YES)
        rows_hold(self, empty, (("split",), ("empty", (1,)), ("sum", 1, (0,))))
        rows_hold(self, empty, (("split",), ("empty", (7,)), ("sum", 4, (0,))))
        rows_hold(self, empty, (("split",), ("empty", (7,)), ("sum", 4, (9,))), False)
        rows_hold(self, empty, (("split",), ("empty", (0,)), ("sum", 1, (0,))), False)
        rows_hold(self, empty, (("split",), ("sum", 1, (0,)), ("sum", 1, (0,))), True)

    def test_both_branches_need_their_rows(self):
        empty = ("leads", NO, YES)
        rows_hold(self, empty, (("split",), ("empty", (1,))), False)
        rows_hold(self, empty, (("split",), ("sum", 1, (0,))), False)

    def test_empty_at_a_question(self):
        saying = ("or", YES, ("times", ("times", X, X), NO))
        rows = (
            # 2 x - 1 >= 0; then 2 x - 2 >= 0 too, where only x = 1 is left and 3 - 2 x is asked,
            ("split",), ("split",), ("is", "least", 1, (0, 0, 0, 2)), ("sum", 1, (0, 0, 0, 0)),
            # or 2 x - 2 <= 0.
            ("is", "least", 1, (0, 0, 0, 0)), ("sum", 3, (0, 0, 0, 0)),
            # 2 x - 1 <= 0; then 0 - 1 >= 0, which is nowhere so, and the last question is not answered,
            ("split",), ("empty", (0, 1, 0, 0)),
            # or 0 - 1 <= 0.
            ("is", "least", 2, (0, 0, 0, 0)), ("sum", 1, (0, 0, 0, 0)))
        rows_hold(self, saying, rows)
        rows_hold(self, saying, rows[:2] + (("is", "least", 1, (0, 0, 0, 0)),) + rows[3:], False)
        for wrong in (("empty", (0, 0, 0, 0)), ("empty", (1, 1, 0, 0)), ("empty", (0, 1, 0)),
                      ("empty", (0, 1, 0, 0, 0)), ("empty",), ("empty", (0, 1, 0, 0), 1),
                      ("empty", (0, True, 0, 0)), ("empty", (-1, 1, 2, 0)), ("empty", 1), ("empty", None)):
            rows_hold(self, saying, rows[:7] + (wrong,) + rows[8:], False)
        # A branch that has ended has no rows more.
        rows_hold(self, saying, rows[:8] + (("sum", 1, (0, 0, 0, 0)),) + rows[8:], False)

    def test_empty_at_the_end(self):
        saying = ("leads", NO, YES)
        rows_hold(self, saying, (("split",), ("empty", (1,)), ("empty", (1,))), False)
        rows_hold(self, saying, (("empty", ()),), False)

    def test_greater_multiples(self):
        saying = ("leads", ("and", X, Y), X)
        rows = validity.validity(saying)
        for factor in (2, 7, 10 ** 50):
            rows_hold(self, saying, greater(rows, factor))

    def test_other_multiples(self):
        # The sum may be less than k f by a number above 0.
        saying = ("leads", X, YES)
        rows_hold(self, saying, (("is", "most", 1, (0, 1)), ("sum", 1, (0, 0))))
        rows_hold(self, saying, (("is", "most", 3, (0, 3)), ("sum", 9, (0, 0))))
        rows_hold(self, saying, (("is", "most", 3, (1, 4)), ("sum", 9, (0, 0))), False)
        rows_hold(self, saying, (("is", "most", 3, (0, 2)), ("sum", 9, (0, 0))), False)

    def test_the_other_side(self):
        # x - x is at least 0 and at most 0.
        saying = ("leads", X, X)
        rows_hold(self, saying, (("is", "least", 1, (0, 0)), ("sum", 1, (0, 0))))
        rows_hold(self, saying, (("is", "most", 1, (0, 0)), ("sum", 1, (0, 0))))


class WrongRows(unittest.TestCase):
    def test_one_place_is_wrong(self):
        for saying, rows in [(EXAMPLE, EXAMPLE_ROWS)] + [(saying, validity.validity(saying)) for saying in VALID]:
            rows_hold(self, saying, rows)
            for k, row in enumerate(rows):
                rows_hold(self, saying, rows[:k] + rows[k + 1:], False)
                rows_hold(self, saying, rows[:k] + (row,) + rows[k:], False)
                for wrong in self.wrong_ones(row):
                    rows_hold(self, saying, rows[:k] + (wrong,) + rows[k + 1:], False)
            rows_hold(self, saying, rows + (("split",),), False)
            rows_hold(self, saying, rows + ((),), False)

    def wrong_ones(self, row):
        some = [(), "split", "sum", None, 1, True, row + (0,), row[:-1], ("split", 1), (row,), ("sum",), ("empty",),
                ("else",) + row[1:], ("empty", (0, 0)), ("is", "least", 1), ("sum", 1, ()) if len(row) < 3 else ()]
        if row[0] == "split":
            return some
        k, multiples = row[-2:]
        for other in (0, -k, True, None, "1", (1,)):
            some.append(row[:-2] + (other, multiples))
        for other in (None, 0, "", multiples + (0,), multiples[:-1] + (True,), multiples[:-1] + (-1,), (multiples,),
                      multiples[:-1] + ("0",), multiples[:-1] + (None,)):
            if other != multiples or True in other:
                some.append(row[:-1] + (other,))
        if row[0] == "is":
            some += [("is", side) + row[2:] for side in ("", "Least", None, 1, True, ("least",))]
        return some

    def test_another_side(self):
        for saying in VALID:
            rows = validity.validity(saying)
            for k, row in enumerate(rows):
                if row[0] == "is" and row[1] == "most":
                    rows_hold(self, saying, rows[:k] + (("is", "least") + row[2:],) + rows[k + 1:], False)

    def test_another_number(self):
        saying = EXAMPLE
        for k, place in ((1, 0), (1, 1), (1, 2), (2, 0), (3, 1)):
            row = EXAMPLE_ROWS[k]
            multiples = row[-1][:place] + (row[-1][place] + 1,) + row[-1][place + 1:]
            rows_hold(self, saying, EXAMPLE_ROWS[:k] + (row[:-1] + (multiples,),) + EXAMPLE_ROWS[k + 1:], False)

    def test_things_of_other_kinds(self):
        for value in ((), "", "split", 0, 1, True, False, None, ("split",), ((),), (("split",),), (1,), (None, None),
                      ("sum", 1, (0, 0)), (("sum", 1, (0, 0)),) * 600, tuple([("split",)] * 3000)):
            for saying in VALID + [X, NO]:
                if names_of(saying) or len(saying) == 3:
                    rows_hold(self, saying, value, False)
        rows_hold(self, YES, (), False)

    def test_deep_things(self):
        deep = ()
        for _ in range(118):
            deep = (deep,)
        for value in (deep, (deep,), (("is", "least", 1, deep),), (("sum", deep, ()),), (("empty", deep),)):
            rows_hold(self, YES, value, False)
            rows_hold(self, ("leads", X, X), value, False)

    def test_sayings_that_are_not_valid(self):
        for saying in (X, NO, ("or", X, neg(X)), ("leads", X, Y)):
            rows_hold(self, saying, validity.validity(YES), False)
            rows_hold(self, saying, (("sum", 1, (0, 0)),), False)
            rows_hold(self, saying, (("empty", (0, 0)),), False)
            rows_hold(self, saying, (("split",), ("empty", (0, 0, 0)), ("empty", (0, 0, 0))), False)
        rows_hold(self, X, (("sum", 1, (1, 0)),), False)
        rows_hold(self, X, (("sum", 1, (0, 1)),), False)

    def test_rows_of_another_saying(self):
        for saying in VALID:
            rows = validity.validity(saying)
            if len(rows) > 3:
                rows_hold(self, ("leads", X, Y), rows, False)
                rows_hold(self, neg(saying), rows, False)

    def test_bound_comes_first(self):
        for value in (None, 1, (), (("sum", 1, ()),)):
            check_raises(self, errors.TooMany, {"what": "marks"}, validity.is_validity, with_marks(8, [X, Y, Z]), value)
            check_raises(self, errors.TooMany, {"what": "unknowns"}, validity.is_validity,
                         with_marks(3, [X, Y, Z, W]), value)

    def test_true_is_no_integer(self):
        rows_hold(self, YES, (("sum", 1, ()),))
        rows_hold(self, YES, (("sum", True, ()),), False)
        saying = ("leads", ("and", X, YES), X)
        rows = validity.validity(saying)
        rows_hold(self, saying, rows)
        for k, row in enumerate(rows):
            for place, number in enumerate(row[-1]):
                swapped = row[-1][:place] + (bool(number),) + row[-1][place + 1:]
                rows_hold(self, saying, rows[:k] + (row[:-1] + (swapped,),) + rows[k + 1:], False)
