import itertools
import random
import unittest
from fractions import Fraction

from halftruths import errors, termsayings
from halftruths.groups import are_terms_alike, is_never_above
from halftruths.likeness import are_alike
from halftruths.products import product_length
from halftruths.sayings import depth_of, is_saying, marks_in, words_in
from halftruths.terms import is_term, term_row
from tests.helpers import NO, X, Y, YES, Z, check_raises, names_of, neg, parts_first, random_saying, worth
from tests.meanings import random_meant
from tests.termcones import NIL, UNIT, added, amount, choices_of, less, opposite, random_term

NAMES = ("x", "y", "z")
W = ("unknown", "w")


def term_anew(saying):
    if saying[0] == "unknown":
        return ("lesser", UNIT, ("greater", NIL, saying))
    if saying[0] in ("yes", "no"):
        return UNIT if saying[0] == "yes" else NIL
    parts = [term_anew(part) for part in saying[1:]]
    s, t = parts[0], parts[-1]
    return {
        "not": less(UNIT, s),
        "plus": ("lesser", UNIT, ("sum", s, t)),
        "times": ("greater", NIL, ("sum", s, less(t, UNIT))),
        "leads": ("lesser", UNIT, ("sum", less(UNIT, s), t)),
        "and": ("lesser", s, t),
        "or": ("greater", s, t),
        "same": less(UNIT, ("greater", less(s, t), less(t, s))),
    }[saying[0]]


def length_anew(saying):
    if saying[0] == "unknown":
        return ("greater", NIL, saying)
    if saying[0] == "yes":
        return NIL
    s, t = length_anew(saying[1]), length_anew(saying[2])
    return {"times": ("sum", s, t), "leads": ("greater", NIL, less(t, s)), "and": ("greater", s, t),
            "or": ("lesser", s, t), "same": ("greater", less(s, t), less(t, s))}[saying[0]]


def join(p, q):
    return q if p == NO else p if q == NO else ("plus", p, q)


def halves_anew(term, signs, name):
    """The halves; signs are by the names of unknowns."""
    sign = term[0]
    if sign == "unknown":
        return (term, NO) if signs[term[1]] == 1 else (NO, term)
    if sign in ("nil", "unit"):
        return (NO, NO) if sign == "nil" else (("unknown", name), NO)
    p, q = halves_anew(term[1], signs, name)
    if sign == "minus":
        return q, p
    r, v = halves_anew(term[2], signs, name)
    if sign == "sum":
        return join(p, r), join(q, v)
    return ("and" if sign == "lesser" else "or", join(p, v), join(r, q)), join(q, v)


def summed_worth(saying, numbers):
    """What a half is if `plus` adds without a bound."""
    kind = saying[0]
    if kind == "unknown":
        return numbers[saying[1]]
    if kind == "no":
        return 0
    a, b = summed_worth(saying[1], numbers), summed_worth(saying[2], numbers)
    return {"plus": a + b, "and": min(a, b), "or": max(a, b)}[kind]


def tree_of_words(mark, leaves):
    while len(leaves) > 1:
        leaves = [(mark,) + tuple(leaves[k:k + 2]) if k + 1 < len(leaves) else leaves[k]
                  for k in range(0, len(leaves), 2)]
    return leaves[0]


def nested(mark, count, leaf=X):
    saying = leaf
    for _ in range(count):
        saying = (mark, saying, YES)
    return saying


class TermOf(unittest.TestCase):
    def test_each_word(self):
        x, y = term_anew(X), term_anew(Y)
        self.assertEqual(termsayings.term_of(X), ("lesser", UNIT, ("greater", NIL, X)))
        self.assertEqual(termsayings.term_of(YES), UNIT)
        self.assertEqual(termsayings.term_of(NO), NIL)
        self.assertEqual(termsayings.term_of(neg(X)), ("sum", UNIT, ("minus", x)))
        self.assertEqual(termsayings.term_of(("times", X, Y)),
                         ("greater", NIL, ("sum", x, ("sum", y, ("minus", UNIT)))))
        self.assertEqual(termsayings.term_of(("leads", X, Y)),
                         ("lesser", UNIT, ("sum", ("sum", UNIT, ("minus", x)), y)))
        self.assertEqual(termsayings.term_of(("same", X, Y)), ("sum", UNIT, ("minus", (
            "greater", ("sum", x, ("minus", y)), ("sum", y, ("minus", x))))))

    def test_at_random(self):
        source = random.Random(321)
        for count in range(4):
            for _ in range(40):
                saying = random_saying(source, source.randrange(6), NAMES[:count])
                term = term_anew(saying)
                if is_term(term):
                    self.assertEqual(termsayings.term_of(saying), term)
                    self.check_worth(source, saying, term)

    def check_worth(self, source, saying, term):
        names = names_of(saying)
        for d in range(1, 6):
            numbers = [source.randint(-2, d + 2) for _ in names]
            place = [Fraction(min(d, max(0, number)), d) for number in numbers]
            rows = tuple((number,) for number in numbers)
            self.assertEqual(term_row(term, names, rows, (d,)), (d * worth(saying, names, place),))

    def test_alike_exactly_if_terms_are(self):
        source = random.Random(322)
        found = {True: 0, False: 0}
        pairs = [(("and", X, Y), ("times", X, ("leads", X, Y))), (neg(neg(X)), X), (("leads", X, NO), neg(X)),
                 (("plus", X, Y), ("leads", neg(X), Y)), (("or", X, Y), ("leads", ("leads", X, Y), Y))]
        pairs += [[random_saying(source, source.randrange(2), ("x", "y")) for _ in range(2)] for _ in range(60)]
        for first, second in pairs:
            alike = are_alike(first, second)
            two = termsayings.term_of(first), termsayings.term_of(second)
            if sum(word[0] in ("lesser", "greater") for term in two for word in parts_first(term)) > 12:
                continue
            self.assertIs(are_terms_alike(*two), alike)
            found[alike] += 1
        self.assertTrue(min(found.values()) > 5, found)

    def test_words_at_their_bound(self):
        # Each x has 5 words, each yes 1, each `and` 1, a `not` 3.
        for unknowns, size in ((1, 999), (100, 999), (166, 997)):
            leaves = [X] * unknowns + [YES] * ((size + 1 - 6 * unknowns) // 2)
            saying = tree_of_words("and", leaves)
            self.assertEqual(words_in(term_anew(saying)), size)
            self.assertEqual(termsayings.term_of(saying), term_anew(saying))
            check_raises(self, errors.TooGreat, {"what": "words"}, termsayings.term_of, neg(saying) if size == 999
                         else ("and", saying, neg(YES)))
        exact = neg(tree_of_words("and", [X] * 50 + [YES] * 349))
        self.assertEqual(words_in(term_anew(exact)), 1000)
        self.assertEqual(termsayings.term_of(exact), term_anew(exact))
        check_raises(self, errors.TooGreat, {"what": "words"}, termsayings.term_of, ("and", exact, YES))

    def test_depth_at_its_bound(self):
        for mark, kept in (("and", 58), ("or", 58), ("plus", 29), ("times", 29), ("leads", 14), ("same", 4)):
            depths = [depth_of(term_anew(nested(mark, k))) for k in (kept, kept + 1)]
            self.assertTrue(depths[0] <= 60, (mark, depths))
            if mark != "same":
                self.assertGreater(depths[1], 60, mark)
                self.assertEqual(termsayings.term_of(nested(mark, kept)), term_anew(nested(mark, kept)))
                check_raises(self, errors.TooGreat, {"what": "depth"}, termsayings.term_of, nested(mark, kept + 1))
        deep = nested("and", 59)
        check_raises(self, errors.TooGreat, {"what": "depth"}, termsayings.term_of, deep)
        wide = tree_of_words("and", [deep] + [YES] * 450)
        check_raises(self, errors.TooGreat, {"what": "words"}, termsayings.term_of, wide)

    def test_doubled_words(self):
        # Each `same` has its parts twice: the term would have more words than can be counted one by one.
        saying = X
        for _ in range(59):
            saying = ("same", saying, X)
        self.assertTrue(is_saying(saying))
        check_raises(self, errors.TooGreat, {"what": "words"}, termsayings.term_of, saying)
        check_raises(self, errors.TooGreat, {"what": "words"}, termsayings.length_term, saying)


class LengthTerm(unittest.TestCase):
    def test_each_word(self):
        for saying in (X, YES, ("times", X, Y), ("leads", X, Y), ("and", X, Y), ("or", X, Y), ("same", X, Y),
                       ("leads", ("times", YES, X), ("or", X, ("same", Y, Z)))):
            self.assertEqual(termsayings.length_term(saying), length_anew(saying))
        self.assertEqual(termsayings.length_term(X), ("greater", NIL, X))
        self.assertEqual(termsayings.length_term(("leads", X, Y)),
                         ("greater", NIL, less(("greater", NIL, Y), ("greater", NIL, X))))

    def test_is_the_length(self):
        source = random.Random(323)
        done = 0
        while done < 150:
            saying = random_meant(source, source.randrange(6), NAMES, 0)
            if any(word == NO for word in parts_first(saying)):
                continue
            names = names_of(saying)
            term = termsayings.length_term(saying)
            self.assertEqual(term, length_anew(saying))
            lengths = tuple(source.randint(0, 5) for _ in names)
            self.assertEqual(term_row(term, names, tuple((n,) for n in lengths), (0,)),
                             (product_length(saying, names, lengths),))
            done += 1

    def test_length_nothing(self):
        # The length is 0 at all lengths exactly if the term is alike to `nil`.
        for saying, nothing in ((("leads", X, X), True), (X, False), (YES, True), (("leads", ("times", X, Y), X), True),
                                (("leads", X, ("times", X, X)), False), (("or", ("leads", X, Y), ("leads", Y, X)), True),
                                (("leads", ("leads", X, ("times", X, Y)), Y), True), (("same", X, Y), False)):
            self.assertIs(are_terms_alike(termsayings.length_term(saying), NIL), nothing, saying)

    def test_wrong_marks(self):
        for saying, mark in ((NO, "no"), (neg(X), "not"), (("plus", X, Y), "plus"), (neg(NO), "not"),
                             (("and", ("plus", NO, X), neg(X)), "plus"), (("leads", X, ("or", NO, neg(Y))), "no"),
                             (("times", neg(("plus", X, Y)), NO), "not")):
            check_raises(self, errors.WrongMark, {"mark": mark}, termsayings.length_term, saying)
        wide = tree_of_words("same", [X] * 100 + [NO])
        check_raises(self, errors.WrongMark, {"mark": "no"}, termsayings.length_term, wide)

    def test_bounds(self):
        exact = tree_of_words("and", [X] * 200 + [YES] * 100)
        self.assertEqual(words_in(length_anew(exact)), 999)
        self.assertEqual(termsayings.length_term(exact), length_anew(exact))
        check_raises(self, errors.TooGreat, {"what": "words"}, termsayings.length_term, ("or", exact, YES))
        even = tree_of_words("times", [X] * 249 + [("leads", YES, YES)])
        self.assertEqual(words_in(length_anew(even)), 1002)
        check_raises(self, errors.TooGreat, {"what": "words"}, termsayings.length_term, even)
        other = tree_of_words("times", [X] * 248 + [("leads", YES, YES), YES])
        self.assertEqual(words_in(length_anew(other)), 1000)
        self.assertEqual(termsayings.length_term(other), length_anew(other))
        for kept in (58, 59):
            saying = nested("and", kept)
            self.assertEqual(depth_of(length_anew(saying)), kept + 1)
            self.assertEqual(termsayings.length_term(saying), length_anew(saying))
        check_raises(self, errors.TooGreat, {"what": "depth"}, termsayings.length_term, nested("and", 60))


class Halves(unittest.TestCase):
    def check(self, term, name="w"):
        names = names_of(term)
        for signs in choices_of(len(names)):
            found = termsayings.halves(term, signs, name)
            self.assertEqual(found, halves_anew(term, dict(zip(names, signs)), name))
            for numbers in itertools.product(range(3), repeat=len(names)):
                for unit in range(3):
                    sizes = {**dict(zip(names, numbers)), name: unit}
                    first, second = [summed_worth(half, sizes) for half in found]
                    self.assertEqual(first - second, amount(term, names, [s * n for s, n in zip(signs, numbers)], unit))

    def test_by_hand(self):
        halves = termsayings.halves
        self.assertEqual(halves(X, (1,), "w"), (X, NO))
        self.assertEqual(halves(X, (-1,), "w"), (NO, X))
        self.assertEqual(halves(NIL, (), "w"), (NO, NO))
        self.assertEqual(halves(UNIT, (), "w"), (W, NO))
        self.assertEqual(halves(opposite(X), (1,), "w"), (NO, X))
        self.assertEqual(halves(added(X, Y), (1, 1), "w"), (("plus", X, Y), NO))
        self.assertEqual(halves(added(X, Y), (1, -1), "w"), (X, Y))
        self.assertEqual(halves(less(X, Y), (1, 1), "u"), (X, Y))
        self.assertEqual(halves(("lesser", X, NIL), (1,), "w"), (("and", X, NO), NO))
        self.assertEqual(halves(("lesser", X, NIL), (-1,), "w"), (("and", NO, X), X))
        self.assertEqual(halves(("greater", NIL, NIL), (), "w"), (("or", NO, NO), NO))
        self.assertEqual(halves(added(("lesser", NIL, NIL), X), (1,), "w"), (("plus", ("and", NO, NO), X), NO))
        self.assertEqual(halves(("lesser", less(X, UNIT), Y), (1, -1), "w"),
                         (("and", ("plus", X, Y), W), ("plus", W, Y)))

    def test_at_random(self):
        source = random.Random(324)
        for count in range(4):
            for _ in range(25):
                self.check(random_term(source, source.randrange(5), NAMES[:count], True, 3))

    def test_name_taken(self):
        for term, signs, name in ((X, (1,), "x"), (added(X, Y), (1, 1), "y"), (less(UNIT, Y), (-1,), "y")):
            check_raises(self, errors.NameTaken, {"name": name}, termsayings.halves, term, signs, name)
        wide = tree_of_words("lesser", [less(X, Y)] * 120)
        self.assertTrue(is_term(wide))
        check_raises(self, errors.NameTaken, {"name": "y"}, termsayings.halves, wide, (1, 1), "y")
        check_raises(self, errors.NameTaken, {"name": "y"}, termsayings.equation_sayings, X, wide, (1, 1), "y")
        check_raises(self, errors.NameTaken, {"name": "x"}, termsayings.equation_sayings, X, wide, (1, 1), "x")
        self.assertEqual(termsayings.halves(X, (1,), "y"), (X, NO))

    def test_words_at_their_bound(self):
        # Sums of 500 unknowns have a half with 999 words; with a `lesser` on top it would be more.
        kept = tree_of_words("sum", [X] * 500)
        self.assertEqual(termsayings.halves(kept, (1,), "w")[0], tree_of_words("plus", [X] * 500))
        self.assertEqual(termsayings.halves(kept, (-1,), "w")[1], tree_of_words("plus", [X] * 500))
        source = random.Random(325)
        found = {True: 0, False: 0}
        for _ in range(60):
            term = tree_of_words("lesser", [random_term(source, 1, ("x", "y"), True, 3)
                                            for _ in range(source.randint(20, 60))])
            sizes = [words_in(half) for half in halves_anew(term, {"x": 1, "y": -1}, "w")]
            signs = tuple(1 if name == "x" else -1 for name in names_of(term))
            found[max(sizes) > 1000] += 1
            if max(sizes) > 1000:
                check_raises(self, errors.TooGreat, {"what": "words"}, termsayings.halves, term, signs, "w")
            else:
                self.assertEqual(termsayings.halves(term, signs, "w"), halves_anew(term, {"x": 1, "y": -1}, "w"))
        self.assertTrue(min(found.values()) > 3, found)

    def test_just_a_thousand_words(self):
        # and(499 x, x) has 1 + 997 + 1; the term has 998 + ... words.
        for size, kept in ((498, True), (499, True), (500, False)):
            term = ("lesser", tree_of_words("sum", [X] * size), Y)
            expected = halves_anew(term, {"x": 1, "y": 1}, "w")
            self.assertEqual(max(words_in(half) for half in expected) <= 1000, kept)
            if kept:
                self.assertEqual(termsayings.halves(term, (1, 1), "w"), expected)
            else:
                check_raises(self, errors.TooGreat, {"what": "words"}, termsayings.halves, term, (1, 1), "w")
        # The second half alone may be too great.
        term = opposite(("lesser", tree_of_words("sum", [X] * 499), Y))
        self.assertEqual(termsayings.halves(term, (1, 1), "w"), halves_anew(term, {"x": 1, "y": 1}, "w"))

    def test_depth_at_its_bound(self):
        def deep(count):
            term = X
            for _ in range(count):
                term = ("lesser", term, less(Y, X))
            return term
        for count in range(20, 61):
            term = deep(count)
            if not is_term(term):
                break
            expected = halves_anew(term, {"x": 1, "y": 1}, "w")
            words, depth = max(map(words_in, expected)), max(map(depth_of, expected))
            if words > 1000 or depth > 60:
                check_raises(self, errors.TooGreat, {"what": "words" if words > 1000 else "depth"}, termsayings.halves,
                             term, (1, 1), "w")
            else:
                self.assertEqual(termsayings.halves(term, (1, 1), "w"), expected)
        chain = X
        for _ in range(60):
            chain = ("greater", chain, X)
        self.assertEqual(termsayings.halves(chain, (1,), "w"), halves_anew(chain, {"x": 1}, "w"))
        deeper = X
        for k in range(59):
            deeper = ("lesser", deeper, opposite(X))
        expected = halves_anew(deeper, {"x": 1}, "w")
        self.assertGreater(max(map(depth_of, expected)), 60)
        what = "words" if max(map(words_in, expected)) > 1000 else "depth"
        check_raises(self, errors.TooGreat, {"what": what}, termsayings.halves, deeper, (1,), "w")

    def test_doubled_words(self):
        term = X
        for _ in range(29):
            term = ("lesser", opposite(term), X)
        check_raises(self, errors.TooGreat, {"what": "words"}, termsayings.halves, term, (1,), "w")
        check_raises(self, errors.TooGreat, {"what": "words"}, termsayings.halves, term, (-1,), "w")
        check_raises(self, errors.TooGreat, {"what": "words"}, termsayings.equation_sayings, NIL, term, (-1,), "w")


class Equations(unittest.TestCase):
    def anew(self, first, second, signs, name):
        known = dict(zip(names_of(first, second), signs))
        (p, q), (r, v) = halves_anew(first, known, name), halves_anew(second, known, name)
        return join(p, v), join(r, q)

    def test_by_hand(self):
        equation = termsayings.equation_sayings
        self.assertEqual(equation(X, X, (1,), "w"), (X, X))
        self.assertEqual(equation(X, X, (-1,), "w"), (X, X))
        self.assertEqual(equation(X, NIL, (1,), "w"), (X, NO))
        self.assertEqual(equation(NIL, NIL, (), "w"), (NO, NO))
        self.assertEqual(equation(less(X, Y), NIL, (1, 1), "w"), (X, Y))
        self.assertEqual(equation(Y, X, (-1, 1), "w"), (NO, ("plus", X, Y)))

    def test_at_random(self):
        source = random.Random(326)
        for count in range(4):
            for _ in range(25):
                first, second = [random_term(source, source.randrange(3), NAMES[:count], True, 3) for _ in range(2)]
                for signs in choices_of(len(names_of(first, second))):
                    self.assertEqual(termsayings.equation_sayings(first, second, signs, "w"),
                                     self.anew(first, second, signs, "w"))

    def test_alike_exactly_if_sayings_are(self):
        source = random.Random(327)
        found = {True: 0, False: 0}
        pairs = [(added(X, Y), added(Y, X)), (("lesser", X, Y), ("lesser", Y, X)), (less(X, X), NIL),
                 (opposite(("lesser", X, NIL)), ("greater", opposite(X), NIL)), (("lesser", UNIT, NIL), NIL),
                 (added(("lesser", X, NIL), ("greater", X, NIL)), X), (("greater", X, UNIT), ("greater", UNIT, X))]
        pairs += [[random_term(source, source.randrange(2), ("x",), True, 2) for _ in range(2)] for _ in range(60)]
        for first, second in pairs:
            alike = are_terms_alike(first, second)
            sayings = [termsayings.equation_sayings(first, second, signs, "w")
                       for signs in choices_of(len(names_of(first, second)))]
            if max(marks_in(one) + marks_in(other) for one, other in sayings) > 9:
                continue
            self.assertIs(all(are_alike(*two) for two in sayings), alike, (first, second))
            self.assertIs(alike, is_never_above(first, second) and is_never_above(second, first))
            found[alike] += 1
        self.assertTrue(min(found.values()) > 5, found)

    def test_bounds(self):
        half = tree_of_words("sum", [X] * 250)
        other = opposite(tree_of_words("sum", [Y] * 250))
        self.assertEqual(termsayings.equation_sayings(half, other, (1, 1), "w"), self.anew(half, other, (1, 1), "w"))
        more = opposite(tree_of_words("sum", [Y] * 251))
        check_raises(self, errors.TooGreat, {"what": "words"}, termsayings.equation_sayings, half, more, (1, 1), "w")
        # The second saying alone is too great.
        check_raises(self, errors.TooGreat, {"what": "words"}, termsayings.equation_sayings, opposite(half),
                     tree_of_words("sum", [Y] * 251), (1, 1), "w")
        chain = X
        for _ in range(60):
            chain = ("greater", chain, X)
        check_raises(self, errors.TooGreat, {"what": "depth"}, termsayings.equation_sayings, chain, opposite(Y), (1, 1),
                     "w")
        check_raises(self, errors.TooGreat, {"what": "words"}, termsayings.equation_sayings, chain,
                     opposite(tree_of_words("sum", [Y] * 460)), (1, 1), "w")
