import itertools
import random
import unittest
from fractions import Fraction
from math import gcd, lcm

from halftruths import errors, web
from halftruths.likeness import are_alike
from tests.helpers import (HALF, NO, ONE, W, X, Y, YES, Z, ZERO, chained, check_bounded, check_bounded_pair,
                           check_raises, grid, names_of, neg, pair, random_saying, with_marks, worth)
from tests.webs import (KEPT_AND_PASSED, TWO_WITH_17, WEB_OF_17, WEB_OF_23, WEB_OF_61, corners_anew, forms_anew,
                        web_anew)


class ValueForms(unittest.TestCase):
    def test_by_hand(self):
        self.assertEqual(web.value_forms(("and", X, Y), ("x", "y")), ((0, 0, 1), (0, 1, 0)))
        self.assertEqual(web.value_forms(X, ("y", "x")), ((0, 0, 1),))
        self.assertEqual(web.value_forms(neg(X), ("x",)), ((1, -1),))
        self.assertEqual(web.value_forms(YES, ()), ((1,),))
        self.assertEqual(web.value_forms(NO, ("x", "y", "z")), ((0, 0, 0, 0),))
        self.assertEqual(web.value_forms(("plus", X, X), ("x",)), ((0, 2), (1, 0)))
        # x - x is never above 0, so it is on the side `most`, also where [10] takes `least`.
        self.assertEqual(web.value_forms(("leads", X, X), ("x",)), ((1, 0),))
        self.assertEqual(web.value_forms(("plus", X, NO), ("x",)), ((0, 1),))
        self.assertEqual(web.value_forms(("plus", X, YES), ("x",)), ((1, 0),))
        # Forms that no point needs are value forms, too.
        self.assertEqual(web.value_forms(("and", ("plus", X, X), ("plus", X, X)), ("x",)), ((0, 2), (1, 0)))
        self.assertEqual(web.value_forms(("same", ("plus", X, X), ("plus", X, X)), ("x",)), ((0, 2), (1, 0), (2, -2)))

    def test_at_random(self):
        source = random.Random(15)
        for _ in range(100):
            names = ("x", "y", "z")[:source.randrange(4)]
            saying = random_saying(source, [12, 12, 9, 7][len(names)] - source.randrange(3), names)
            used = names[::-1]
            self.assertEqual(web.value_forms(saying, used), tuple(sorted(forms_anew(saying, used, set()))))

    def test_errors(self):
        saying = ("and", Z, ("or", X, Y))
        check_raises(self, errors.UnknownName, {"name": "z"}, web.value_forms, saying, ())
        check_raises(self, errors.UnknownName, {"name": "x"}, web.value_forms, saying, ("z",))
        check_raises(self, errors.UnknownName, {"name": "w"}, web.value_forms, with_marks(30, [X, W]), ("x", "y"))
        check_bounded(self, errors, lambda saying: web.value_forms(saying, ("x", "y", "z")[:9])
                      if len(names_of(saying)) < 4 else web.value_forms(saying, ("x", "y", "z", "w")))

    def test_the_names_do_not_count(self):
        twelve = with_marks(12, [X])
        self.assertEqual(web.value_forms(twelve, ("x", "y", "z")), ((0, 1, 0, 0),))
        self.assertEqual(web.value_forms(with_marks(12, [YES]), ("x", "y", "z")), ((1, 0, 0, 0),))


class Web(unittest.TestCase):
    def test_by_hand(self):
        self.assertEqual(web.web_of((("and", X, Y),)), ((0, 1, -1),))
        self.assertEqual(web.web_of((("and", Y, X),)), ((0, 1, -1),))
        self.assertEqual(web.web_of((("plus", X, X),)), ((-1, 2),))
        self.assertEqual(web.web_of((("leads", neg(X), X),)), ((-1, 2),))
        self.assertEqual(web.web_of((("plus", neg(X), neg(X)),)), ((-1, 2),))
        # 2 y - 2 x is divided by 2 and changes its signs.
        self.assertIn((0, 1, -1), web.web_of((X, ("leads", ("plus", Y, Y), ("plus", X, X)))))
        self.assertEqual(web.web_of((X, Y, NO)), ())
        self.assertEqual(web.web_of(()), ())
        self.assertEqual(web.web_of((("and", YES, NO),)), ())
        self.assertEqual(web.web_of((("leads", X, X), ("and", X, YES))), ())

    def test_names_of_all_sayings(self):
        self.assertEqual(web.web_of((Z, ("and", X, Y))), ((0, 0, 1, -1),))
        self.assertEqual(web.web_of((("plus", X, X), Y)), ((-1, 2, 0),))
        self.assertEqual(web.web_of((Y, ("plus", X, X))), ((-1, 0, 2),))

    def test_at_random(self):
        source = random.Random(16)
        for _ in range(100):
            names = ("x", "y", "z")[:source.randrange(4)]
            marks = [12, 12, 9, 7][len(names)] - source.randrange(3)
            first = source.randrange(marks + 1)
            sayings = (random_saying(source, first, names), random_saying(source, marks - first, names))
            told = web.web_of(sayings)
            self.assertEqual(told, web_anew(sayings))
            for form in told:
                self.assertEqual(gcd(*form), 1)
                self.assertGreater([number for number in form[1:] if number][0], 0)

    def test_bounds(self):
        check_bounded(self, errors, lambda saying: web.web_of((saying,)))
        check_bounded_pair(self, errors, lambda first, second: web.web_of((first, second)))


class Corners(unittest.TestCase):
    def test_by_hand(self):
        self.assertEqual(web.corners_of(()), ((),))
        self.assertEqual(web.corners_of((YES, ("and", YES, NO))), ((),))
        self.assertEqual(web.corners_of((X,)), ((ZERO,), (ONE,)))
        self.assertEqual(web.corners_of((("plus", X, X),)), ((ZERO,), (HALF,), (ONE,)))
        square = tuple(itertools.product((ZERO, ONE), repeat=2))
        for saying in (("and", X, Y), ("times", X, Y)):
            self.assertEqual(web.corners_of((saying,)), square)
        self.assertEqual(web.corners_of((("and", X, Y), ("times", X, Y))), tuple(sorted(square + ((HALF, HALF),),
                         key=lambda point: [Fraction(*value) for value in point])))
        self.assertEqual(web.corners_of((("and", X, ("and", Y, Z)),)),
                         tuple(itertools.product((ZERO, ONE), repeat=3)))

    def test_ascending_by_fractions_not_by_pairs(self):
        saying = ("and", chained("plus", [X] * 5), chained("times", [X] * 7))
        told = web.corners_of((saying,))
        values = [Fraction(*point[0]) for point in told]
        self.assertEqual(values, sorted(values))
        self.assertNotEqual(list(told), sorted(told))

    def test_at_random(self):
        source = random.Random(17)
        for _ in range(60):
            names = ("x", "y", "z")[:source.randrange(4)]
            marks = [12, 12, 5, 3][len(names)] - source.randrange(3)
            first = source.randrange(marks + 1)
            sayings = (random_saying(source, first, names), random_saying(source, marks - first, names))
            told = web.corners_of(sayings)
            self.assertEqual(told, corners_anew(sayings))
            self.assertEqual(len(set(told)), len(told))
            self.assertEqual(web.corner_chain(sayings), lcm(1, *[value[1] for point in told for value in point]))

    def test_corner_chain(self):
        self.assertEqual(web.corner_chain(()), 1)
        self.assertEqual(web.corner_chain((X, Y)), 1)
        self.assertEqual(web.corner_chain((("plus", X, X), chained("plus", [X] * 3))), 6)


class Differences(unittest.TestCase):
    def test_by_hand(self):
        self.assertIsNone(web.first_difference(X, neg(neg(X))))
        self.assertIsNone(web.first_difference(YES, neg(NO)))
        self.assertEqual(web.first_difference(YES, NO), ())
        self.assertEqual(web.first_difference(X, YES), (ZERO,))
        self.assertEqual(web.first_difference(X, NO), (ONE,))
        self.assertEqual(web.first_difference(("and", X, Y), ("times", X, Y)), (HALF, HALF))
        self.assertEqual(web.first_difference(Y, ("and", Y, X)), (ONE, ZERO))

    def test_at_random(self):
        source = random.Random(18)
        alike = 0
        for _ in range(150):
            names = ("x", "y", "z")[:source.randrange(4)]
            marks = [6, 6, 4, 3][len(names)]
            first = random_saying(source, source.randrange(marks // 2 + 1), names)
            second = random_saying(source, source.randrange(marks // 2 + 1), names)
            used = names_of(first, second)
            told = web.first_difference(first, second)
            apart = [point for point in corners_anew((first, second))
                     if worth(first, used, [Fraction(*value) for value in point])
                     != worth(second, used, [Fraction(*value) for value in point])]
            self.assertEqual(told, apart[0] if apart else None)
            self.assertIs(told is None, are_alike(first, second))
            alike += told is None
        self.assertGreater(alike, 10)


class Extremes(unittest.TestCase):
    def test_by_hand(self):
        for saying, least, greatest in (
                (YES, ONE, ONE), (NO, ZERO, ZERO), (X, ZERO, ONE), (("or", X, neg(X)), HALF, ONE),
                (("and", X, neg(X)), ZERO, HALF), (("leads", X, X), ONE, ONE),
                (("plus", ("and", X, neg(X)), ("and", X, neg(X))), ZERO, ONE),
                (("or", X, ("or", Y, neg(("plus", X, Y)))), (1, 3), ONE)):
            self.assertEqual(web.extremes(saying), (least, greatest))

    def test_at_random(self):
        source = random.Random(19)
        for _ in range(80):
            names = ("x", "y", "z")[:source.randrange(4)]
            saying = random_saying(source, [12, 9, 5, 3][len(names)], names)
            used = names_of(saying)
            least, greatest = web.extremes(saying)
            values = [worth(saying, used, [Fraction(*value) for value in point]) for point in corners_anew((saying,))]
            self.assertEqual((least, greatest), (pair(min(values)), pair(max(values))))
            for place in grid(len(used), 5):
                self.assertTrue(Fraction(*least) <= worth(saying, used, place) <= Fraction(*greatest))


class Bounds(unittest.TestCase):
    def functions(self):
        return (lambda saying: web.corners_of((saying,)), lambda saying: web.corner_chain((saying,)), web.extremes,
                lambda saying: web.first_difference(saying, NO), lambda saying: web.first_difference(NO, saying))

    def test_bounded(self):
        for function in self.functions():
            check_bounded(self, errors, function)
        check_bounded_pair(self, errors, web.first_difference)
        check_bounded_pair(self, errors, lambda first, second: web.corners_of((first, second)))
        check_bounded_pair(self, errors, lambda first, second: web.corner_chain((first, second)))

    def test_questions(self):
        for kept, most, passed in KEPT_AND_PASSED:
            self.assertEqual(len(web.web_of((kept,))), most)
            self.assertEqual(len(web.web_of((passed,))), most + 1)
            self.assertEqual(web.corners_of((kept,)), corners_anew((kept,)))
            for function in self.functions():
                function(kept)
                check_raises(self, errors.TooMany, {"what": "questions"}, function, passed)

    def test_the_web_of_both_counts(self):
        first, second = TWO_WITH_17
        self.assertEqual(len(web.web_of(TWO_WITH_17)), 17)
        web.extremes(first)
        web.extremes(second)
        for function in (web.corners_of, web.corner_chain):
            check_raises(self, errors.TooMany, {"what": "questions"}, function, TWO_WITH_17)
        check_raises(self, errors.TooMany, {"what": "questions"}, web.first_difference, first, second)

    def test_value_forms_and_web_have_no_such_bound(self):
        for saying in (WEB_OF_61, WEB_OF_17):
            self.assertEqual(web.web_of((saying,)), web_anew((saying,)))
            self.assertEqual(web.value_forms(saying, ("x", "y", "z")),
                             tuple(sorted(forms_anew(saying, ("x", "y", "z"), set()))))

    def test_one_unknown_has_no_such_bound(self):
        self.assertEqual(len(web.web_of((WEB_OF_23,))), 23)
        self.assertEqual(web.corners_of((WEB_OF_23,)), corners_anew((WEB_OF_23,)))

    def test_marks_go_before_questions(self):
        for function in self.functions():
            check_raises(self, errors.TooMany, {"what": "marks"}, function, ("and", WEB_OF_61, X))
            check_raises(self, errors.TooMany, {"what": "unknowns"}, function, ("and", WEB_OF_17, W))
