import random
import unittest
from fractions import Fraction

from halftruths import ladders, sayings
from halftruths.errors import TooGreat, UnknownName
from halftruths.values import value_at
from tests.helpers import (HALF, NO, ONE, X, Y, YES, Z, ZERO, chained, check_raises, neg, nots, pair, point_of,
                           random_saying, words_of, worth)


def doubled(rows):
    """A ladder of so many rows in which each row but the first doubles the one before by `plus`."""
    return (X,) + tuple(("plus", k, k) for k in range(rows - 1))


def deep(rows):
    """A ladder of so many rows that is as deep as it is long."""
    return (X,) + tuple(("not", k) for k in range(rows - 1))


def rows_anew(saying):
    words = []

    def along(word):
        for part in word[1:]:
            if isinstance(part, tuple):
                along(part)
        if word not in words:
            words.append(word)
    along(saying)
    return tuple(tuple(words.index(part) if isinstance(part, tuple) else part for part in word) for word in words)


class IsLadder(unittest.TestCase):
    def test_ladders(self):
        for value in ((X,), (YES,), (NO,), (X, ("not", 0)), (X, Y, ("and", 1, 0)), (X, X, X), (YES, NO, X),
                      (X, ("plus", 0, 0), ("not", 0), ("times", 1, 2)), (("unknown", "abcdefgh"), ("or", 0, 0))):
            self.assertIs(ladders.is_ladder(value), True, value)
        for mark in sayings.MARKS:
            self.assertIs(ladders.is_ladder((X, (mark, 0, 0))), True)

    def test_no_ladders(self):
        for value in ((), X, "x", 0, None, True, ("x",), ((),), (("not", 0),), (X, ("not", 1)), (X, ("not", -1)),
                      (X, ("not", True)), (X, ("not", False)), (X, ("and", 0, 1)), (X, ("and", 0, False)),
                      (X, ("and", False, 0)), (X, ("and", 0)), (X, ("and", 0, 0, 0)), (X, ("not", 0, 0)), (X, ("not",)),
                      (X, ("nor", 0, 0)), (X, ("not", "x")), (X, ("not", X)), (X, ("and", X, X)), (X, (0, 0)),
                      (("unknown", "yes"),), (("unknown", 0),), (("unknown",),), (("yes", 0),), (X, ("yes", 0)),
                      (X, None), (X, 1), (X, True), (X, "yes"), (X, ("unknown", 0)), (X, ("and", 0, None)),
                      (X, ("not", (0,))), (X, ("and", 0, 2), Y), (("unknown", "abcdefghi"),), (("minus", 0, 0),),
                      (X, ("not", 10 ** 30))):
            self.assertIs(ladders.is_ladder(value), False, value)

    def test_2000_and_2001_rows(self):
        for make in (doubled, deep):
            self.assertIs(ladders.is_ladder(make(2000)), True)
            self.assertIs(ladders.is_ladder(make(2001)), False)
        self.assertIs(ladders.is_ladder((YES,) * 2000), True)
        self.assertIs(ladders.is_ladder((YES,) * 2001), False)


class LadderOf(unittest.TestCase):
    def test_example(self):
        self.assertEqual(ladders.ladder_of(("times", ("plus", X, X), neg(X))),
                         (X, ("plus", 0, 0), ("not", 0), ("times", 1, 2)))

    def test_by_hand(self):
        self.assertEqual(ladders.ladder_of(X), (X,))
        self.assertEqual(ladders.ladder_of(YES), (YES,))
        self.assertEqual(ladders.ladder_of(nots(X, 3)), (X, ("not", 0), ("not", 1), ("not", 2)))
        self.assertEqual(ladders.ladder_of(("and", ("or", Y, X), ("or", Y, X))), (Y, X, ("or", 0, 1), ("and", 2, 2)))
        self.assertEqual(ladders.ladder_of(("and", ("or", Y, X), ("or", X, Y))),
                         (Y, X, ("or", 0, 1), ("or", 1, 0), ("and", 2, 3)))
        self.assertEqual(ladders.ladder_of(("leads", NO, ("same", YES, NO))),
                         (NO, YES, ("same", 1, 0), ("leads", 0, 2)))

    def test_at_random(self):
        source = random.Random(32)
        for _ in range(150):
            saying = random_saying(source, source.randrange(30), ["x", "y"])
            told = ladders.ladder_of(saying)
            self.assertEqual(told, rows_anew(saying))
            self.assertEqual(len(told), len(set(words_of(saying))))
            self.assertIs(ladders.is_ladder(told), True)
            self.assertEqual(ladders.written_out(told), saying)

    def test_great_sayings(self):
        for saying in (nots(X, 60), chained("times", [X] * 61), sayings.used_times(neg(Y), 60)):
            self.assertEqual(ladders.written_out(ladders.ladder_of(saying)), saying)
        saying = X
        for _ in range(8):
            saying = ("plus", saying, saying)
        self.assertEqual(ladders.ladder_of(saying), doubled(9))


class WrittenOut(unittest.TestCase):
    def test_by_hand(self):
        self.assertEqual(ladders.written_out((X, Y, ("not", 0))), neg(X))
        self.assertEqual(ladders.written_out((X, X, ("and", 0, 1))), ("and", X, X))
        self.assertEqual(ladders.written_out((X, Y)), Y)

    def test_words(self):
        # A row number k of a doubled ladder has 2 ** (k + 1) - 1 words.
        self.assertEqual(sayings.words_in(ladders.written_out(doubled(9))), 511)
        check_raises(self, TooGreat, {"what": "words"}, ladders.written_out, doubled(10))
        check_raises(self, TooGreat, {"what": "words"}, ladders.written_out, doubled(2000))
        thousand = doubled(9)[:8] + (("plus", 7, 6),) + (("and", 7, 8),)
        self.assertEqual(sayings.words_in(ladders.written_out(thousand)), 255 + 255 + 127 + 2)

    def test_just_kept(self):
        # 511 + 255 + 127 + 63 + 31 words with 4 marks more are 991.
        ladder = doubled(9) + (("or", 8, 7), ("or", 9, 6), ("or", 10, 5), ("or", 11, 4))
        self.assertEqual(sayings.words_in(ladders.written_out(ladder)), 991)
        for more in range(1, 15):
            ladder = ladder + (("not", len(ladder) - 1),)
            if more <= 9:
                self.assertEqual(sayings.words_in(ladders.written_out(ladder)), 991 + more)
                self.assertIs(sayings.is_saying(ladders.written_out(ladder)), True)
            else:
                check_raises(self, TooGreat, {"what": "words"}, ladders.written_out, ladder)

    def test_depth(self):
        self.assertEqual(ladders.written_out(deep(61)), nots(X, 60))
        check_raises(self, TooGreat, {"what": "depth"}, ladders.written_out, deep(62))
        check_raises(self, TooGreat, {"what": "depth"}, ladders.written_out, deep(1000))
        check_raises(self, TooGreat, {"what": "words"}, ladders.written_out, deep(1001))
        check_raises(self, TooGreat, {"what": "words"}, ladders.written_out, deep(2000))

    def test_rows_that_are_not_needed(self):
        self.assertEqual(ladders.written_out(doubled(1000) + deep(999)[:1]), X)
        self.assertEqual(ladders.written_out(deep(1999) + (("and", 1, 0),)), ("and", neg(X), X))
        self.assertEqual(ladders.written_out(doubled(1999) + (("not", 3),)), neg(ladders.written_out(doubled(4))))


class LadderAt(unittest.TestCase):
    def test_by_hand(self):
        ladder = (X, ("plus", 0, 0), ("not", 0), ("times", 1, 2))
        self.assertEqual(ladders.ladder_at(ladder, ("x",), ((1, 3),)), (1, 3))
        self.assertEqual(ladders.ladder_at((YES,), (), ()), ONE)
        self.assertEqual(ladders.ladder_at((NO,), ("x",), (HALF,)), ZERO)
        self.assertEqual(ladders.ladder_at((X, Y), ("y", "x"), (HALF, ONE)), HALF)

    def test_at_random(self):
        source = random.Random(33)
        names = ("x", "y", "z")
        for _ in range(150):
            saying = random_saying(source, source.randrange(15), names)
            point = point_of([Fraction(source.randrange(k + 1), k) for k in (5, 6, 10 ** 20)])
            told = ladders.ladder_at(ladders.ladder_of(saying), names, point)
            self.assertEqual(told, value_at(saying, names, point))
            self.assertEqual(told, pair(worth(saying, names, [Fraction(*value) for value in point])))

    def test_long_ladders(self):
        big = 2 ** 300
        self.assertEqual(ladders.ladder_at(doubled(200), ("x",), ((1, big),)), (1, 2 ** 101))
        self.assertEqual(ladders.ladder_at(doubled(2000), ("x",), ((1, big),)), ONE)
        self.assertEqual(ladders.ladder_at(doubled(2000), ("x",), (ZERO,)), ZERO)
        self.assertEqual(ladders.ladder_at(deep(2000), ("x",), ((1, 3),)), (2, 3))
        self.assertEqual(ladders.ladder_at(deep(1999), ("x",), ((1, 3),)), (1, 3))

    def test_unknown_name(self):
        ladder = (Z, Y, X, YES, ("not", 3))
        check_raises(self, UnknownName, {"name": "z"}, ladders.ladder_at, ladder, (), ())
        check_raises(self, UnknownName, {"name": "y"}, ladders.ladder_at, ladder, ("z",), (ONE,))
        check_raises(self, UnknownName, {"name": "x"}, ladders.ladder_at, ladder, ("y", "z"), (ONE, ONE))
        self.assertEqual(ladders.ladder_at(ladder, ("x", "y", "z"), (ONE, ONE, ONE)), ZERO)
