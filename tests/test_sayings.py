import random
import unittest

from halftruths import sayings
from halftruths.errors import TooGreat
from tests.helpers import NO, X, Y, YES, Z, chained, check_raises, neg, nots, random_saying, words_of


def with_words(count):
    """A saying of low depth with so many words."""
    if count == 1:
        return X
    if count == 2:
        return neg(X)
    first = (count - 1) // 2
    return ("or", with_words(first), with_words(count - 1 - first))


class Names(unittest.TestCase):
    def test_names(self):
        for name in ("x", "a", "z", "x1", "abcdefgh", "a2345678", "yess", "nots", "plus1", "unknown", "an"):
            self.assertIs(sayings.is_name(name), True, name)

    def test_no_names(self):
        wrong = ["", "abcdefghi", "X", "1x", "x_", "x y", " x", "x\n", "aB", "\u00e9", "x\u0661", "\u0430",
                 "yes", "no", "not", "plus", "times", "leads", "and", "or", "same",
                 0, 1, True, False, None, (), ("x",)]
        for value in wrong:
            self.assertIs(sayings.is_name(value), False, value)


class IsSaying(unittest.TestCase):
    def test_sayings(self):
        right = [X, YES, NO, neg(X), neg(neg(YES)), ("unknown", "abcdefgh")]
        right += [(mark, X, neg(Y)) for mark in ("plus", "times", "leads", "and", "or", "same")]
        for value in right:
            self.assertIs(sayings.is_saying(value), True, value)

    def test_no_sayings(self):
        wrong = [(), "yes", 1, True, None, ("yes", X), ("yes", ()), ("no", 1), ("unknown",), ("unknown", "yes"),
                 ("unknown", 1), ("unknown", "x", "y"), ("unknown", True), ("not",), ("not", "x"), ("not", X, Y),
                 ("plus",), ("plus", X), ("plus", X, Y, Z), ("plus", X, "y"), ("plus", X, True), ("and", None, X),
                 ("minus", X, Y), (X, "plus", Y), (X,), ("unknown", X), (1, X, Y), (True,), (None, X, X),
                 ("or", X, ("not", ())), (("yes",), X), ("unknown", "abcdefghi"), ("x",), ("same", X, ("nil",))]
        for value in wrong:
            self.assertIs(sayings.is_saying(value), False, value)

    def test_depth_60_and_61(self):
        self.assertIs(sayings.is_saying(nots(X, 60)), True)
        self.assertIs(sayings.is_saying(nots(X, 61)), False)
        self.assertIs(sayings.is_saying(nots(X, 118)), False)
        self.assertIs(sayings.is_saying(nots((), 119)), False)
        self.assertIs(sayings.is_saying(chained("and", [X] * 61)), True)
        self.assertIs(sayings.is_saying(chained("and", [X] * 62)), False)

    def test_words_1000_and_1001(self):
        for count in (999, 1000):
            self.assertEqual(sayings.words_in(with_words(count)), count)
            self.assertIs(sayings.is_saying(with_words(count)), True)
        for count in (1001, 1002, 2500):
            self.assertIs(sayings.is_saying(with_words(count)), False)

    def test_parts_that_are_shared_many_times(self):
        value = X
        for _ in range(59):
            value = ("and", value, value)
        self.assertIs(sayings.is_saying(value), False)


class Measures(unittest.TestCase):
    def test_words_depth_marks(self):
        for saying, words, depth, marks in (
                (X, 1, 0, 0), (YES, 1, 0, 0), (NO, 1, 0, 0), (neg(X), 2, 1, 0), (nots(X, 60), 61, 60, 0),
                (("plus", X, X), 3, 1, 1), (("same", neg(X), ("or", X, YES)), 6, 2, 2),
                (("leads", nots(X, 5), nots(Y, 3)), 11, 6, 1)):
            self.assertEqual(sayings.words_in(saying), words)
            self.assertEqual(sayings.depth_of(saying), depth)
            self.assertEqual(sayings.marks_in(saying), marks)

    def test_all_marks_count(self):
        for mark in sayings.MARKS:
            self.assertEqual(sayings.marks_in((mark, (mark, X, YES), neg(X))), 2)

    def test_at_random(self):
        source = random.Random(1)
        for _ in range(100):
            marks = source.randrange(20)
            saying = random_saying(source, marks, ["x", "y", "z", "w"])
            self.assertEqual(sayings.marks_in(saying), marks)
            self.assertEqual(sayings.words_in(saying), len(list(words_of(saying))))


class Unknowns(unittest.TestCase):
    def test_order(self):
        saying = ("and", ("or", Z, neg(X)), ("plus", X, Y))
        self.assertEqual(sayings.unknowns_of((saying,)), ("z", "x", "y"))
        self.assertEqual(sayings.unknowns_of((Y, saying)), ("y", "z", "x"))
        self.assertEqual(sayings.unknowns_of((NO, X, X, saying)), ("x", "z", "y"))
        self.assertEqual(sayings.unknowns_of((("unknown", "b"), ("unknown", "a"))), ("b", "a"))

    def test_none(self):
        self.assertEqual(sayings.unknowns_of(()), ())
        self.assertEqual(sayings.unknowns_of((YES, neg(NO))), ())

    def test_more_than_a_bound(self):
        names = tuple("n" + str(k) for k in range(40))
        leaves = [("unknown", name) for name in names]
        self.assertEqual(sayings.unknowns_of((chained("plus", leaves),)), names)

    def test_occurrences(self):
        saying = ("and", ("or", X, neg(X)), ("plus", X, Y))
        self.assertEqual(sayings.occurrences(saying, "x"), 3)
        self.assertEqual(sayings.occurrences(saying, "y"), 1)
        self.assertEqual(sayings.occurrences(saying, "z"), 0)
        self.assertEqual(sayings.occurrences(YES, "unknown"), 0)
        self.assertEqual(sayings.occurrences(("unknown", "unknown"), "unknown"), 1)


class PutFor(unittest.TestCase):
    def test_put(self):
        saying = ("and", ("or", X, neg(X)), ("plus", Y, YES))
        self.assertEqual(sayings.put_for(saying, "x", NO), ("and", ("or", NO, neg(NO)), ("plus", Y, YES)))
        self.assertEqual(sayings.put_for(saying, "y", saying),
                         ("and", ("or", X, neg(X)), ("plus", saying, YES)))
        self.assertEqual(sayings.put_for(X, "x", ("plus", X, X)), ("plus", X, X))
        self.assertEqual(sayings.put_for(X, "x", X), X)

    def test_the_saying_itself(self):
        for saying in (YES, X, with_words(1000), nots(X, 60)):
            self.assertEqual(sayings.put_for(saying, "z", with_words(1000)), saying)

    def test_words(self):
        eleven = with_words(11)
        hundred = chained("and", [X] * 50)
        self.assertEqual(sayings.words_in(sayings.put_for(("and", X, neg(X)), "x", with_words(499))), 1000)
        check_raises(self, TooGreat, {"what": "words"}, sayings.put_for, neg(("and", X, neg(X))), "x", with_words(499))
        self.assertEqual(sayings.words_in(sayings.put_for(("and", X, X), "x", with_words(499))), 999)
        check_raises(self, TooGreat, {"what": "words"}, sayings.put_for, ("and", X, X), "x", with_words(500))
        self.assertEqual(sayings.words_in(sayings.put_for(hundred, "x", eleven)), 99 + 50 * 10)
        check_raises(self, TooGreat, {"what": "words"}, sayings.put_for, hundred, "x", with_words(20))

    def test_depth(self):
        self.assertEqual(sayings.put_for(nots(X, 30), "x", nots(Y, 30)), nots(Y, 60))
        check_raises(self, TooGreat, {"what": "depth"}, sayings.put_for, nots(X, 30), "x", nots(Y, 31))
        check_raises(self, TooGreat, {"what": "depth"}, sayings.put_for, nots(X, 60), "x", nots(X, 60))
        saying = ("and", nots(Y, 59), X)
        self.assertEqual(sayings.put_for(saying, "x", nots(NO, 59)), ("and", nots(Y, 59), nots(NO, 59)))

    def test_words_go_before_depth(self):
        saying = ("and", nots(X, 50), X)
        other = ("or", nots(X, 40), with_words(500))
        check_raises(self, TooGreat, {"what": "words"}, sayings.put_for, saying, "x", other)


class UsedTimes(unittest.TestCase):
    def test_counts(self):
        self.assertEqual(sayings.used_times(X, 0), YES)
        self.assertEqual(sayings.used_times(X, 1), X)
        self.assertEqual(sayings.used_times(X, 2), ("times", X, X))
        self.assertEqual(sayings.used_times(neg(Y), 3), ("times", neg(Y), ("times", neg(Y), neg(Y))))

    def test_great_sayings_few_times(self):
        self.assertEqual(sayings.used_times(with_words(1000), 0), YES)
        self.assertEqual(sayings.used_times(with_words(1000), 1), with_words(1000))
        self.assertEqual(sayings.used_times(nots(X, 60), 1), nots(X, 60))

    def test_words(self):
        self.assertEqual(sayings.words_in(sayings.used_times(with_words(499), 2)), 999)
        self.assertEqual(sayings.words_in(sayings.used_times(with_words(142), 7)), 1000)
        check_raises(self, TooGreat, {"what": "words"}, sayings.used_times, with_words(143), 7)
        check_raises(self, TooGreat, {"what": "words"}, sayings.used_times, with_words(500), 2)
        check_raises(self, TooGreat, {"what": "words"}, sayings.used_times, X, 501)
        check_raises(self, TooGreat, {"what": "words"}, sayings.used_times, X, 10 ** 30)
        check_raises(self, TooGreat, {"what": "words"}, sayings.used_times, nots(X, 59), 400)

    def test_depth(self):
        self.assertEqual(sayings.depth_of(sayings.used_times(X, 61)), 60)
        self.assertTrue(sayings.is_saying(sayings.used_times(X, 61)))
        check_raises(self, TooGreat, {"what": "depth"}, sayings.used_times, X, 62)
        check_raises(self, TooGreat, {"what": "depth"}, sayings.used_times, X, 500)
        check_raises(self, TooGreat, {"what": "depth"}, sayings.used_times, nots(X, 60), 2)
        self.assertEqual(sayings.depth_of(sayings.used_times(nots(X, 59), 2)), 60)
