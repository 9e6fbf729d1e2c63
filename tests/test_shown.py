import itertools
import math
import random
import unittest

from halftruths import errors, shown
from halftruths.chaintrees import chain_valid
from halftruths.follow import is_follow_certificate, least_uses
from halftruths.groups import is_never_above
from halftruths.likeness import are_alike, is_likeness, is_parting
from halftruths.productfollows import product_use
from halftruths.productvalid import is_product_valid, is_product_validity
from halftruths.sayings import used_times
from halftruths.validity import is_valid, is_validity
from tests.chaining import holds, is_top
from tests.helpers import (HALF, NO, ONE, W, X, Y, YES, Z, ZERO, check_raises, names_of, neg, nots, random_saying,
                           with_marks, worth_at)
from tests.meanings import place_of, product_worth, random_meant, with_meant_marks
from tests.termcones import NIL, UNIT, added, amount, judged_term, less, opposite, random_term, with_signs
from tests.test_productfollows import is_derivation
from tests.test_productvalid import changed_once, is_rows
from tests.webs import KEPT_AND_PASSED

SQUARE = ("times", X, X)
DIVIDE = ("same", ("and", X, Y), ("times", X, ("leads", X, Y)))
TRUE = (("valid", YES), ("valid", ("leads", SQUARE, X)), ("valid", DIVIDE), ("alike", X, neg(neg(X))),
        ("alike", ("and", X, Y), ("times", X, ("leads", X, Y))), ("follows", X, SQUARE), ("follows", NO, Y),
        ("follows", ("and", X, Y), ("times", X, Y)), ("follows", X, YES), ("product valid", DIVIDE),
        ("product valid", ("leads", X, X)), ("product follows", X, SQUARE), ("product follows", ("times", X, Y), X),
        ("product follows", NO, X), ("product follows", Y, ("leads", X, X)), ("chain valid", DIVIDE),
        ("chain valid", ("leads", NO, X)), ("chain valid", YES), ("never above", ("lesser", X, NIL), X),
        ("never above", NIL, UNIT), ("never above", ("lesser", X, Y), ("greater", Y, X)))
FALSE = (("valid", X), ("valid", NO), ("valid", ("or", X, neg(X))), ("alike", X, Y), ("alike", X, SQUARE), ("alike", YES, NO),
         ("follows", X, Y), ("follows", YES, X), ("follows", ("or", X, Y), ("and", X, Y)), ("product valid", X),
         ("product valid", ("or", X, neg(X))), ("product valid", NO), ("product valid", ("leads", X, SQUARE)),
         ("product follows", ("or", X, Y), X), ("product follows", YES, NO), ("product follows", neg(X), Y),
         ("chain valid", X), ("chain valid", ("or", X, neg(X))), ("chain valid", NO), ("chain valid", ("leads", X, SQUARE)),
         ("never above", X, NIL), ("never above", UNIT, NIL), ("never above", ("lesser", X, less(UNIT, X)), NIL),
         ("never above", X, Y))


def is_point(value, count):
    return type(value) is tuple and len(value) == count and all(
        type(v) is tuple and len(v) == 2 and all(type(n) is int for n in v) and 0 <= v[0] <= v[1] and math.gcd(*v) == 1 for v in value)


def are_lengths(value, count):
    return type(value) is tuple and len(value) == count and all(
        length is None or (type(length) is int and 0 <= length <= 1000) for length in value)


def is_counter(question, value):
    """Whether a value is a certificate for the answer False, looked at anew."""
    kind, *parts = question
    names = names_of(*parts)
    if kind == "valid":
        return is_point(value, len(names)) and worth_at(parts[0], names, value) < 1
    if kind == "alike":
        return is_point(value, len(names)) and worth_at(parts[0], names, value) != worth_at(parts[1], names, value)
    if kind == "follows":
        return (type(value) is tuple and len(value) == 2 and value[0] == "against" and is_point(value[1], len(names))
                and worth_at(parts[0], names, value[1]) == 1 > worth_at(parts[1], names, value[1]))
    if kind == "product valid":
        return are_lengths(value, len(names)) and product_worth(parts[0], names, place_of(value)) != 1
    if kind == "product follows":
        return (are_lengths(value, len(names)) and product_worth(parts[0], names, place_of(value)) == 1
                and product_worth(parts[1], names, place_of(value)) != 1)
    if kind == "chain valid":
        if type(value) is not tuple or len(value) != len(names):
            return False
        for grade in value:
            if grade != ("one",):
                if type(grade) is not tuple or len(grade) != 3 or grade[0] != "in" or type(grade[1]) is not int:
                    return False
                if not 0 <= grade[1] <= len(names) or not is_point((grade[2],), 1) or grade[2][0] >= grade[2][1]:
                    return False
        return not is_top(parts[0], ("sum",) * (len(names) + 1), names, value)
    if type(value) is not tuple or len(value) != 2:
        return False
    numbers, unit = value
    if type(numbers) is not tuple or len(numbers) != len(names) or not all(type(n) is int for n in numbers + (unit,)):
        return False
    if max(map(abs, numbers + (unit,))) > 10 ** 6 or unit < 0:
        return False
    return amount(parts[0], names, numbers, unit) > amount(parts[1], names, numbers, unit)


def is_certificate(question, value):
    """Whether a value is a certificate for the answer True; judged anew where products, chains and terms are asked."""
    kind, *parts = question
    return {"valid": is_validity, "alike": is_likeness, "product valid": is_rows, "product follows": is_derivation,
            "chain valid": holds, "never above": judged_term,
            "follows": lambda a, b, c: is_follow_certificate(a, b, c) and c[0] == "follows"}[kind](*parts, value)


class Answers(unittest.TestCase):
    def test_by_hand(self):
        for questions, answer in ((TRUE, True), (FALSE, False)):
            for question in questions:
                self.assertIs(shown.answer_to(question), answer, question)

    def check(self, question):
        answer, certificate = shown.certified(question)
        self.assertIs(type(answer), bool)
        self.assertIs(shown.answer_to(question), answer)
        fits = is_certificate if answer else is_counter
        self.assertTrue(fits(question, certificate), (question, certificate))
        self.assertIs(shown.is_certified(question, answer, certificate), True)
        self.assertIs(shown.is_certified(question, not answer, certificate), False)
        return answer

    def test_certificates(self):
        for question in TRUE + FALSE:
            self.check(question)

    def test_at_random(self):
        source = random.Random(361)
        found = {}
        for _ in range(250):
            names = ("x", "y", "z")[:source.randrange(4)]
            a, b = random_saying(source, source.randrange(3), names), random_saying(source, source.randrange(3), names)
            c, d = random_meant(source, source.randrange(3), names, 0.1), random_meant(source, source.randrange(3), names, 0.1)
            s, t = [random_term(source, source.randrange(3), names, len(names) < 3, 2) for _ in range(2)]
            questions = (("valid", ("leads", a, b)), ("alike", a, b), ("follows", a, b), ("product valid", ("leads", c, d)),
                         ("product follows", c, d), ("chain valid", ("leads", c, d)), ("never above", s, t))
            question = source.choice(questions)
            key = (question[0], self.check(question))
            found[key] = found.get(key, 0) + 1
        self.assertEqual(len(found), 14, found)

    def test_what_the_answers_hang_on(self):
        functions = {"valid": is_valid, "alike": are_alike, "follows": lambda a, b: least_uses(a, b) is not None,
                     "product valid": is_product_valid, "product follows": lambda a, b: product_use(a, b) is not None,
                     "chain valid": chain_valid, "never above": is_never_above}
        for question in TRUE + FALSE:
            self.assertIs(shown.answer_to(question), functions[question[0]](*question[1:]))


class Judging(unittest.TestCase):
    def is_certified(self, question, answer, value):
        found = shown.is_certified(question, answer, value)
        self.assertIs(type(found), bool)
        if shown.answer_to(question) is not answer:
            right = False
        else:
            right = bool((is_certificate if answer else is_counter)(question, value))
        self.assertIs(found, right, (question, answer, value))
        return found

    def test_wrong_at_one_place(self):
        for question in TRUE + FALSE:
            answer, value = shown.certified(question)
            if len(str(value)) > 330:
                continue
            for other in changed_once(value):
                self.is_certified(question, answer, other)

    def test_of_other_questions(self):
        values = [shown.certified(question)[1] for question in TRUE + FALSE]
        for question in TRUE + FALSE:
            for value in values:
                for answer in (True, False):
                    self.is_certified(question, answer, value)

    def test_any_right_ones(self):
        for question, answer, value in (
                (("valid", X), False, (HALF,)), (("valid", ("or", X, neg(X))), False, ((9, 10),)),
                (("alike", X, Y), False, (ONE, HALF)), (("follows", ("or", X, Y), X), False, ("against", ((1, 7), ONE))),
                (("product valid", X), False, (7,)), (("product valid", X), False, (1000,)),
                (("product follows", ("or", X, Y), X), False, (3, 0)), (("product follows", ("or", X, Y), X), False, (None, 0)),
                (("product follows", X, SQUARE), True, (5, ((), (("sum", 2, (6,)),)))),
                (("chain valid", X), False, (("in", 1, HALF),)), (("chain valid", ("or", X, neg(X))), False, (("in", 1, ZERO),)),
                (("never above", X, NIL), False, ((10 ** 6,), 10 ** 6)), (("never above", UNIT, NIL), False, ((), 10 ** 6)),
                (("never above", X, Y), False, ((-3, -5), 0))):
            self.assertTrue(self.is_certified(question, answer, value), (question, value))

    def test_wrong_ones(self):
        for question, answer, value in (
                (("valid", X), False, (ONE,)), (("valid", X), False, ((2, 4),)), (("valid", X), False, HALF),
                (("valid", X), False, ()), (("valid", X), False, (HALF, HALF)), (("valid", X), False, None),
                (("valid", X), True, ()), (("valid", YES), False, ()), (("valid", NO), False, (HALF,)),
                (("product valid", X), False, (0,)), (("product valid", X), False, (1001,)), (("product valid", X), False, (-1,)),
                (("product valid", X), False, (True,)), (("product valid", X), False, ("1",)),
                (("product follows", ("or", X, Y), X), False, (0, 0)), (("product follows", ("or", X, Y), X), False, (1, 1)),
                (("product follows", ("or", X, Y), X), False, (1001, 0)), (("product follows", X, SQUARE), True, (1, ((), ()))),
                (("chain valid", X), False, (("in", 2, HALF),)), (("chain valid", X), False, (("one",),)),
                (("chain valid", X), False, (("in", 0, ONE),)), (("chain valid", X), False, "x"),
                (("never above", X, NIL), False, ((10 ** 6 + 1,), 0)), (("never above", X, NIL), False, ((1,), 10 ** 6 + 1)),
                (("never above", X, NIL), False, ((1,), -1)), (("never above", X, NIL), False, ((0,), 0)),
                (("never above", X, NIL), False, ((1,), True)), (("never above", X, NIL), False, ((True,), 0)),
                (("never above", X, NIL), False, ((1, 1), 0)), (("never above", X, NIL), False, (1, 0)),
                (("never above", X, Y), False, ((-10 ** 6, -10 ** 6 - 1), 0)), (("never above", X, NIL), False, ((1,),)),
                (("follows", X, SQUARE), False, ("against", (ONE,))), (("follows", X, Y), True, ("against", (ONE, ZERO)))):
            self.assertFalse(self.is_certified(question, answer, value), (question, value))

    def test_any_values(self):
        for question in TRUE + FALSE:
            for value in (None, True, False, 0, -1, "", "follows", (), ((),), (None,), ("against",), ("follows", 0), (((),),),
                          (0, 0), (("one",),), ("empty", ()), (1, 2, 3, 4), tuple("abc"), ("against", None), ((0, 1), None),
                          ("follows", 1, (), ()), ((None,), (None,)), (("sum", 1, (0, 0)),), (("in", 0, None),)):
                for answer in (True, False):
                    self.is_certified(question, answer, value)


class Errors(unittest.TestCase):
    def check(self, error, arguments, question):
        for function in (shown.answer_to, shown.certified, lambda each: shown.is_certified(each, True, None),
                         lambda each: shown.is_certified(each, False, ((0, 1),)),
                         lambda each: shown.is_certified(each, False, None)):
            check_raises(self, error, arguments, function, question)

    def test_bounds(self):
        many, marks, unknowns = errors.TooMany, {"what": "marks"}, {"what": "unknowns"}
        for kind in ("valid", "product valid"):
            for leaves, most in (([YES, NO], 12), ([X], 12), ([X, Y], 9), ([X, Y, Z], 7)):
                self.check(many, marks, (kind, with_meant_marks(most + 1, leaves)))
                shown.certified((kind, with_meant_marks(most, leaves)))
            self.check(many, unknowns, (kind, with_meant_marks(20, [X, Y, Z, W])))
        for kind in ("alike", "follows", "product follows"):
            for leaves, most in (([X], 12), ([X, Y], 9), ([X, Y, Z], 7)):
                self.check(many, marks, (kind, with_meant_marks(3, leaves), with_meant_marks(most - 2, leaves)))
            self.check(many, unknowns, (kind, with_meant_marks(20, [X, Y]), ("and", Z, W)))
        self.check(many, marks, ("chain valid", nots(X, 11)))
        self.check(many, marks, ("chain valid", with_meant_marks(8, [X, Y, Z])))
        self.check(many, unknowns, ("chain valid", with_meant_marks(20, [X, Y, Z, W])))
        self.check(many, unknowns, ("never above", added(X, Y, Z), UNIT))
        self.check(many, {"what": "signs"}, ("never above", with_signs(13, [X, Y, Z]), NIL))
        for _, _, passed in KEPT_AND_PASSED:
            self.check(many, {"what": "questions"}, ("follows", YES, passed))
            shown.certified(("valid", passed))
            shown.certified(("alike", passed, NO))

    def test_plus(self):
        for bad in (("plus", X, Y), neg(("plus", X, with_marks(20, [X, Y, Z, W])))):
            for question in (("product valid", bad), ("chain valid", bad), ("product follows", bad, X),
                             ("product follows", X, bad)):
                self.check(errors.WrongMark, {"mark": "plus"}, question)
        self.assertTrue(shown.certified(("valid", ("plus", X, neg(X))))[0])

    def test_nothing_else_is_raised(self):
        # Whatever stands in the place of a certificate, and for whatever answer.
        odd = (("valid", used_times(X, 13)), ("product follows", X, used_times(X, 13)), ("never above", opposite(X), NIL))
        for question, answer in itertools.product(odd, (True, False)):
            for value in (None, (), ((),), (10 ** 50, 10 ** 50), ((10 ** 50, 10 ** 50 + 1),), (13, ((), (("sum", 1, (0,)),)))):
                shown.is_certified(question, answer, value)
        self.assertTrue(is_product_validity(YES, shown.certified(("product valid", YES))[1]))
        self.assertTrue(is_parting(X, Y, shown.certified(("alike", X, Y))[1]))
