import random
import re
import unittest

from halftruths import errors, texts
from halftruths.sayings import depth_of, is_saying, words_in
from tests.helpers import HALF, NO, ONE, X, Y, YES, Z, ZERO, chained, check_raises, neg, nots, random_saying

MARKS = ("plus", "times", "leads", "and", "or", "same")


def written(saying):
    if saying[0] == "unknown":
        return saying[1]
    if saying[0] in ("yes", "no"):
        return saying[0]
    if saying[0] == "not":
        return "not " + written(saying[1])
    return "({} {} {})".format(written(saying[1]), saying[0], written(saying[2]))


def loosened(source, text):
    """The text with blanks at all places where they may stand, or with as few as may be."""
    tokens = re.findall(r"\w+|[()]", text)
    out = " " * source.randrange(3)
    for first, second in zip(tokens, tokens[1:] + [""]):
        need = first.isalnum() and second.isalnum()
        out += first + " " * (source.randrange(3) if not need else source.randint(1, 3))
    return out


def tight(text):
    return re.sub(r" ?([()]) ?", r"\1", text)


def deep_brackets(count):
    text = "x"
    for _ in range(count):
        text = "(" + text + " or x)"
    return text


class Writing(unittest.TestCase):
    def test_sayings(self):
        for saying, text in ((X, "x"), (YES, "yes"), (NO, "no"), (neg(X), "not x"), (nots(YES, 3), "not not not yes"),
                             (("plus", X, Y), "(x plus y)"), (neg(("leads", X, neg(Y))), "not (x leads not y)"),
                             (("same", ("and", X, NO), ("or", neg(Y), ("unknown", "a1b2c3d4"))),
                              "((x and no) same (not y or a1b2c3d4))"), (("times", X, X), "(x times x)")):
            self.assertEqual(texts.saying_text(saying), text)
            self.assertEqual(texts.read_saying(text), saying)

    def test_values(self):
        for value, text in ((ZERO, "0"), (ONE, "1"), (HALF, "1/2"), ((7, 10 ** 20 + 1), "7/" + str(10 ** 20 + 1)),
                            ((123, 1000), "123/1000")):
            self.assertEqual(texts.value_text(value), text)
        self.assertEqual(texts.value_text((10 ** 30, 10 ** 30 + 1)), "1" + "0" * 30 + "/1" + "0" * 29 + "1")

    def test_points(self):
        for names, point, text in (((), (), ""), (("x",), (HALF,), "x=1/2"), (("x", "y"), (HALF, ZERO), "x=1/2, y=0"),
                                   (("b", "a", "c1"), (ONE, (2, 3), ZERO), "b=1, a=2/3, c1=0")):
            self.assertEqual(texts.point_text(names, point), text)

    def test_great_sayings(self):
        deep = X
        for k in range(60):
            deep = (MARKS[k % 6], deep, Y)
        self.assertEqual(texts.saying_text(deep), written(deep))
        wide = chained("and", [X] * 30)
        self.assertEqual(texts.saying_text(wide), written(wide))


class Reading(unittest.TestCase):
    def test_at_random(self):
        source = random.Random(341)
        for _ in range(300):
            saying = random_saying(source, source.randrange(12), ("x", "y1", "ab3", "nota", "yesno"))
            text = written(saying)
            self.assertEqual(texts.saying_text(saying), text)
            for other in (text, loosened(source, text), " " + text + "  ", tight(text)):
                self.assertEqual(texts.read_saying(other), saying, other)

    def test_blanks(self):
        saying = ("leads", neg(X), ("plus", Y, NO))
        for text in ("(not x leads(y plus no))", "  (  not   x   leads  (  y  plus  no  )  )  ", "(not x leads (y plus no))"):
            self.assertEqual(texts.read_saying(text), saying)
        self.assertEqual(texts.read_saying("not(x or y)"), neg(("or", X, Y)))
        self.assertEqual(texts.read_saying("   x"), X)
        self.assertEqual(texts.read_saying("notx"), ("unknown", "notx"))
        self.assertEqual(texts.read_saying("(x and(y or z))"), ("and", X, ("or", Y, Z)))

    def test_bad_places(self):
        for text, place in (
                ("", 0), ("   ", 3), ("not", 3), ("not  ", 5), ("X", 0), ("x+y", 1), ("1", 0), ("x 1", 2), ("x y", 2),
                ("(x)", 2), ("(x and)", 6), ("(x and y", 8), ("(x and y  ", 10), ("(x and y))", 9), ("()", 1), (")", 0),
                ("and", 0), ("(and and x)", 1), ("(x not y)", 3), ("(x yes y)", 3), ("(x foo y)", 3), ("(x and plus)", 7),
                ("abcdefghi", 0), ("(x and abcdefghi)", 7), ("(abcdefghi and x)", 1), ("x not", 2), ("not not", 7),
                ("(x and y) z", 10), ("((x and y) or)", 13), ("(x ( y)", 3), ("(x and y z)", 9), ("not )", 4), ("yes yes", 4),
                ("x=y", 1), ("(x and y", 8), ("x and y", 2), ("plus", 0), ("not and", 4), ("_x", 0), ("x_", 1), ("~", 0),
                ("(x and?", 6), ("xY", 1), ("(not not x or notnotnot)", 14)):
            check_raises(self, errors.BadText, {"place": place}, texts.read_saying, text)

    def test_characters_come_first(self):
        # A character that begins no token, wherever it stands, goes before a token that cannot stand.
        for text, place in ((") x !", 4), ("x y #", 4), ("(((( 9", 5), ("abcdefghi A", 10), ("not not -", 8), ("))))%", 4)):
            check_raises(self, errors.BadText, {"place": place}, texts.read_saying, text)
        # A digit can go on with a word, also behind digits, but not begin one.
        self.assertEqual(texts.read_saying("x9"), ("unknown", "x9"))
        self.assertEqual(texts.read_saying("a00"), ("unknown", "a00"))
        check_raises(self, errors.BadText, {"place": 0}, texts.read_saying, "9x")
        check_raises(self, errors.BadText, {"place": 1}, texts.read_saying, "(9x")

    def test_long_texts(self):
        for size in (3999, 4000):
            self.assertEqual(texts.read_saying("x" + " " * (size - 1)), X)
            self.assertEqual(texts.read_saying(" " * (size - 1) + "x"), X)
        for text in ("x" + " " * 4000, "!" * 4001, " " * 4001, "(" * 5000, "x" * 4001):
            check_raises(self, errors.BadText, {"place": 4000}, texts.read_saying, text)
        check_raises(self, errors.BadText, {"place": 4000}, texts.read_saying, " " * 4000)
        check_raises(self, errors.BadText, {"place": 0}, texts.read_saying, "x" * 4000)
        check_raises(self, errors.BadText, {"place": 3999}, texts.read_saying, "x" + " " * 3998 + "!")

    def test_open_brackets(self):
        self.assertEqual(depth_of(texts.read_saying(deep_brackets(60))), 60)
        check_raises(self, errors.BadText, {"place": 60}, texts.read_saying, deep_brackets(61))
        check_raises(self, errors.BadText, {"place": 60}, texts.read_saying, "(" * 100)
        check_raises(self, errors.BadText, {"place": 120}, texts.read_saying, "( " * 100)
        check_raises(self, errors.BadText, {"place": 60 * 6}, texts.read_saying, "(x or " * 61)
        self.assertEqual(depth_of(texts.read_saying("(x or " * 60 + "y" + ")" * 60)), 60)
        # Brackets that are closed again do not count, and `not` does not either.
        text = "(" * 59 + "((x or x) and (x or x))"
        check_raises(self, errors.BadText, {"place": 60}, texts.read_saying, text)
        text = "(" * 58 + "((x or x) and (x or x))" + " or x)" * 58
        self.assertEqual(depth_of(texts.read_saying(text)), 60)
        check_raises(self, errors.BadText, {"place": 240 + 60}, texts.read_saying, "not (" * 60 + "(")

    def test_too_great(self):
        self.assertEqual(depth_of(texts.read_saying("not " * 60 + "x")), 60)
        check_raises(self, errors.TooGreat, {"what": "depth"}, texts.read_saying, "not " * 61 + "x")
        check_raises(self, errors.TooGreat, {"what": "depth"}, texts.read_saying, "not " * 999 + "x")
        check_raises(self, errors.TooGreat, {"what": "depth"}, texts.read_saying, "not " + deep_brackets(60))
        check_raises(self, errors.BadText, {"place": 4000}, texts.read_saying, "not " * 1000)

    def balanced(self, leaves):
        while len(leaves) > 1:
            pairs = ["({} or {})".format(*leaves[k:k + 2]) for k in range(0, len(leaves) - 1, 2)]
            leaves = pairs + leaves[len(pairs) * 2:]
        return leaves[0]

    def test_many_words(self):
        for count, fits in ((500, True), (501, False), (520, False)):
            text = tight(self.balanced(["x"] * count))
            self.assertLessEqual(len(text), 4000)
            if fits:
                self.assertEqual(words_in(texts.read_saying(text)), 2 * count - 1)
            else:
                check_raises(self, errors.TooGreat, {"what": "words"}, texts.read_saying, text)
        self.assertEqual(words_in(texts.read_saying("not " + tight(self.balanced(["x"] * 500)))), 1000)
        check_raises(self, errors.TooGreat, {"what": "words"}, texts.read_saying,
                     "not not " + tight(self.balanced(["x"] * 500)))
        # Too many words go before too great a depth, and a bad token before both.
        text = "not " * 61 + tight(self.balanced(["x"] * 500))
        check_raises(self, errors.TooGreat, {"what": "words"}, texts.read_saying, text)
        check_raises(self, errors.BadText, {"place": len(text)}, texts.read_saying, text + ")")
        self.assertTrue(is_saying(texts.read_saying(tight(self.balanced(["x"] * 500)))))


class ReadingValues(unittest.TestCase):
    def test_right_ones(self):
        for text, value in (("0", ZERO), ("1", ONE), ("1/2", HALF), ("2/4", HALF), ("0/7", ZERO), ("5/5", ONE),
                            ("1/1", ONE), ("0/1", ZERO), ("10/30", (1, 3)), ("99999999999999999999/99999999999999999999", ONE),
                            ("1/99999999999999999999", (1, 99999999999999999999)), ("3/12345678901234567890",
                                                                                   (1, 4115226300411522630))):
            self.assertEqual(texts.read_value(text), value, text)

    def test_bad_places(self):
        for text, place in (("", 0), (" ", 0), (" 1", 0), ("1 ", 1), ("x", 0), ("/", 0), ("/2", 0), ("1/", 2), ("1/0", 2),
                            ("1/02", 2), ("01", 1), ("00", 1), ("0x", 1), ("1x", 1), ("1/2/3", 3), ("1/2 ", 3), ("1 /2", 1),
                            ("1/ 2", 2), ("-1", 0), ("1/-2", 2), ("1.5", 1), ("+1", 0), ("1//2", 2), ("0/", 2), ("0/0", 2),
                            ("1" * 21, 20), ("1" * 21 + "/2", 20), ("1/" + "9" * 21, 22), ("1/" + "9" * 20 + "x", 22),
                            ("0" * 20, 1), ("1/2x", 3), ("9/1a", 3), ("9 9", 1)):
            check_raises(self, errors.BadText, {"place": place}, texts.read_value, text)

    def test_above_one(self):
        for text, told in (("2", (2, 1)), ("3/2", (3, 2)), ("4/2", (4, 2)), ("10/5", (10, 5)), ("9" * 20, (int("9" * 20), 1)),
                           ("9" * 20 + "/9", (int("9" * 20), 9)), ("7/1", (7, 1))):
            check_raises(self, errors.OutOfRange, {"value": told}, texts.read_value, text)

    def test_written_values(self):
        for p in range(12):
            for q in range(max(1, p), 13):
                value = texts.read_value("{}/{}".format(p, q))
                self.assertEqual(texts.read_value(texts.value_text(value)), value)
