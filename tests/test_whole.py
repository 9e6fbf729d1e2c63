"""That the parts of the program agree with each other where the document says that they do."""

import random
import unittest
from fractions import Fraction

from halftruths.book import Book
from halftruths.breaks import breaks_of
from halftruths.carried import from_point
from halftruths.chains import failing_chains, valid_chains
from halftruths.chaintrees import chain_valid, chain_valid_in
from halftruths.errors import TooGreat, TooMany
from halftruths.follow import least_uses
from halftruths.grades import chain_value
from halftruths.groups import are_terms_alike
from halftruths.ladders import ladder_of, written_out
from halftruths.likeness import are_alike, parting
from halftruths.means import distance_of, mean_of, product_mean
from halftruths.meshes import Mesh
from halftruths.orders import order_follows, order_valid
from halftruths.outlines import outline_of, told_outline
from halftruths.partings import least_parting
from halftruths.productfollows import product_use
from halftruths.producttables import product_table, saying_of_table
from halftruths.productvalid import are_product_alike, is_product_valid
from halftruths.regions import saying_of_region, yes_region
from halftruths.sayings import unknowns_of
from halftruths.shadows import shadow_of, word_between
from halftruths.shares import grid_sum, levels_of, share_from, yes_share
from halftruths.shown import answer_to
from halftruths.tables import table_of
from halftruths.termsayings import equation_sayings, length_term, term_of
from halftruths.termtables import term_of_table, term_table
from halftruths.texts import read_saying, read_value, saying_text, value_text
from halftruths.validity import is_valid
from halftruths.web import extremes, first_difference
from tests.helpers import NO, ONE, X, Y, YES, ZERO, names_of, neg, parts_first, random_saying
from tests.meanings import random_meant
from tests.termcones import choices_of

NAMES = ("x", "y", "z")
LAWS = ((("and", X, Y), ("times", X, ("leads", X, Y))), (("or", X, Y), ("leads", ("leads", X, Y), Y)), (X, neg(neg(X))),
        (("plus", X, Y), neg(("times", neg(X), neg(Y)))), (("same", X, Y), ("and", ("leads", X, Y), ("leads", Y, X))),
        (("leads", X, NO), neg(X)), (("plus", X, neg(X)), YES), (("times", X, neg(X)), NO), (("leads", X, X), YES))


def some_pairs(seed, tries, function=random_saying):
    source = random.Random(seed)
    for _ in range(tries):
        names = NAMES[:source.randint(1, 2)]
        yield [function(source, source.randrange(3), names) for _ in range(2)]


class Alike(unittest.TestCase):
    def check(self, first, second):
        alike = are_alike(first, second)
        same = ("same", first, second)
        names = unknowns_of((first, second))
        self.assertIs(parting(first, second) is None, alike)
        self.assertIs(least_parting(first, second) is None, alike)
        self.assertIs(first_difference(first, second) is None, alike)
        self.assertIs(distance_of(first, second) == ZERO, alike)
        self.assertIs(is_valid(same), alike)
        self.assertIs(valid_chains(same) is None, alike)
        self.assertEqual(mean_of(same), one_less(distance_of(first, second)))
        mesh = Mesh(names)
        mesh.settle(first)
        heights = mesh.settle(second)
        self.assertIs(mesh.numbers(first) == heights, alike)
        self.assertIs(answer_to(("alike", first, second)), alike)
        if len(names) == 1:
            self.assertIs(breaks_of(first) == breaks_of(second), alike)
            self.assertIs(outline_of(first) == outline_of(second), alike)
        try:
            self.assertIs(are_terms_alike(term_of(first), term_of(second)), alike)
            sayings = [equation_sayings(term_of(first), term_of(second), signs, "w")
                       for signs in choices_of(len(names))]
            self.assertIs(all(are_alike(*two) for two in sayings), alike)
        except (TooMany, TooGreat):
            pass
        if alike:
            self.assertEqual(mean_of(first), mean_of(second))
            self.assertEqual(product_mean(first, first), product_mean(first, second))
            self.assertEqual(extremes(first), extremes(second))
            for k in range(5):
                value = (k // 4, 1) if k % 4 == 0 else read_value("{}/4".format(k))
                self.assertEqual(share_from(first, value), share_from(second, value))
        return alike

    def test_laws(self):
        for first, second in LAWS:
            self.assertTrue(self.check(first, second))

    def test_at_random(self):
        found = [self.check(first, second) for first, second in some_pairs(381, 60)]
        self.assertIn(False, found)


def one_less(value):
    number = 1 - Fraction(*value)
    return (number.numerator, number.denominator)


class Valid(unittest.TestCase):
    def test_at_random(self):
        source = random.Random(382)
        found = {True: 0, False: 0}
        for _ in range(80):
            names = NAMES[:source.randint(1, 2)]
            saying = random_saying(source, source.randrange(4), names)
            if source.random() < 0.4:
                saying = ("leads", saying, random_saying(source, 1, names))
            valid = is_valid(saying)
            found[valid] += 1
            self.assertIs(mean_of(saying) == ONE, valid)
            self.assertIs(yes_share(saying) == ONE, valid)
            self.assertIs(levels_of(saying) == (ONE,), valid)
            self.assertEqual((levels_of(saying)[0], levels_of(saying)[-1]), extremes(saying))
            self.assertIs(Book().answer(saying) == "sure", valid)
            self.assertEqual(tuple(value for value, _ in Book().range_of(saying)), extremes(saying))
            self.assertIs(least_uses(X, saying) == 0, valid)
            self.assertIs(are_terms_alike(term_of(saying), ("unit",)) if few_signs(term_of(saying)) else valid, valid)
            self.assertIs(failing_chains(YES, saying) == ((), ()), valid)
        self.assertTrue(min(found.values()) > 8, found)

    def test_without_plus(self):
        source = random.Random(383)
        found = 0
        for _ in range(120):
            names = NAMES[:source.randint(1, 2)]
            saying = ("leads", random_meant(source, source.randrange(3), names, 0.1), random_meant(source, 1, names, 0))
            if chain_valid(saying):
                found += 1
                self.assertTrue(is_valid(saying) and order_valid(saying) and is_product_valid(saying))
                self.assertTrue(all(chain_valid_in(saying, steps) for steps in (1, 2, 3)))
            self.assertIs(chain_valid_in(saying, 1), order_valid(saying))
        self.assertGreater(found, 15)


def few_signs(term):
    return sum(word[0] in ("lesser", "greater") for word in parts_first(term)) <= 12


class Follows(unittest.TestCase):
    def test_at_random(self):
        found = {}
        for first, second in some_pairs(384, 80):
            uses = least_uses(first, second)
            book = Book()
            book.hold(first)
            answer = book.answer(second)
            found[answer] = found.get(answer, 0) + 1
            self.assertIs(answer in ("sure", "none"), uses is not None)
            self.assertEqual(book.uses_for(second), uses)
            self.assertIs(failing_chains(first, second) == ((), ()), uses is not None)
            self.assertIs(answer_to(("follows", first, second)), uses is not None)
            self.assertEqual(uses == 0, is_valid(second))
            if uses is not None and len(set(names_of(first)) & set(names_of(second))) < 2:
                try:
                    between = word_between(first, second)
                except TooGreat:
                    continue
                self.assertTrue(least_uses(first, between) is not None and least_uses(between, second) is not None
                                if few_marks(first, between, second) else True)
        self.assertGreaterEqual(len(found), 3)

    def test_by_products_and_by_order(self):
        for first, second in some_pairs(385, 80, random_meant):
            leads = ("leads", first, second)
            if is_product_valid(leads):
                self.assertIn(product_use(first, second), (0, 1))
            if order_valid(leads):
                self.assertTrue(order_follows((first,), second))
            self.assertIs(are_product_alike(first, second), is_product_valid(("same", first, second)))


def few_marks(*sayings):
    return all(sum(len(word) == 3 for word in parts_first(saying)) <= 4 for saying in sayings)


class Texts(unittest.TestCase):
    def test_what_is_told_can_be_written_and_read(self):
        source = random.Random(386)
        for _ in range(40):
            saying = random_saying(source, source.randrange(5), NAMES)
            self.assertEqual(read_saying(saying_text(saying)), saying)
            self.assertEqual(written_out(ladder_of(saying)), saying)
            self.assertEqual(read_value(value_text(mean_of_few(saying))), mean_of_few(saying))
        told = [saying_of_region((((1, -2, 1),), ((0, 1, -1), (-1, 2, 0))), ("x", "y")),
                written_out(told_outline(((ZERO, ZERO), ((1, 2), ONE), (ONE, ZERO)), "x")),
                saying_of_table(("x", "y"), ((), 2, None, ((1, 0, 1), (1, 1, 1), (0, 1, 0))))]
        for saying in told:
            self.assertEqual(read_saying(saying_text(saying)), saying)


def mean_of_few(saying):
    return mean_of(saying) if len(names_of(saying)) < 3 else ONE


class Tables(unittest.TestCase):
    def test_grid_sums_and_tables(self):
        source = random.Random(387)
        for _ in range(40):
            names = NAMES[:source.randint(1, 2)]
            saying = random_saying(source, 4, names)
            used = unknowns_of((saying,))
            for chain in (1, 2, 3, 5):
                table = table_of(saying, chain, used)
                self.assertEqual(Fraction(*grid_sum(saying, chain)), Fraction(sum(table), chain))

    def test_length_terms_and_fans(self):
        # Where both unknowns are positive, the length of a saying is its length term's value.
        source = random.Random(388)
        done = 0
        while done < 60:
            saying = random_meant(source, source.randrange(5), ("x", "y"), 0)
            if any(word == NO for word in parts_first(saying)) or not few_signs(length_term(saying)):
                continue
            fan = product_table(saying, ("x", "y"))[3]
            round_fan = term_table(length_term(saying), ("x", "y"))
            axis = [ray[:2] for ray in round_fan].index((0, 1))
            self.assertEqual(round_fan[:axis + 1], fan)
            if not any(any(ray[2:]) for ray in fan):
                self.assertTrue(are_terms_alike(length_term(saying), ("nil",)))
            done += 1

    def test_tables_and_terms_and_back(self):
        for fan in (((1, 0, 2), (0, 1, -1), (-1, 0, 0), (0, -1, 3)), ((1, 0, 1), (1, 1, 0), (0, 1, 1), (-1, 0, 0), (0, -1, 0))):
            term = term_of_table(("x", "y"), fan)
            self.assertEqual(term_table(term, ("x", "y")), fan)
            other = ("sum", ("minus", ("minus", term)), ("nil",))
            self.assertTrue(are_terms_alike(term, other))


class Regions(unittest.TestCase):
    def test_shadows_ranges_and_regions(self):
        for saying in (("same", X, neg(X)), ("plus", X, X), ("times", ("plus", X, X), ("leads", X, ("times", X, X)))):
            stretches = shadow_of(saying, "x")
            book = Book()
            book.hold(saying)
            self.assertIs(book.is_possible(), bool(stretches))
            if stretches:
                (low, _), (high, _) = book.range_of(X)
                self.assertEqual((low, high), (stretches[0][0], stretches[-1][1]))
            total = sum(Fraction(*high) - Fraction(*low) for low, high in stretches)
            self.assertEqual(Fraction(*yes_share(saying)), total)
            self.assertIs(bool(yes_region(saying)), bool(stretches))

    def test_one_sum_is_the_values(self):
        source = random.Random(389)
        for _ in range(60):
            saying = random_meant(source, 4, ("x",))
            for value, point in Book().range_of(saying):
                at = from_point(point)
                self.assertEqual(chain_value(saying, ("sum",), unknowns_of((saying,)), at), from_point((value,))[0])
