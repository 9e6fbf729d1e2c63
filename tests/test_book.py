import itertools
import random
import unittest
from fractions import Fraction

from halftruths import errors
from halftruths.book import Book
from halftruths.follow import least_uses
from halftruths.values import is_value
from tests.helpers import (HALF, NO, ONE, W, X, Y, YES, Z, ZERO, check_raises, form_worth, names_of, neg, pair,
                           random_saying, tree_of, vertices, with_marks, worth_at)
from tests.webs import KEPT_AND_PASSED

NAMES = ("x", "y", "z")
EITHER = ("or", X, Y)


def book_of(*sayings):
    book = Book()
    for saying in sayings:
        book.hold(saying)
    return book


def range_anew(held, saying):
    """(least, greatest) where all held sayings are 1, from the corners of cells; None if they are so nowhere."""
    sayings = tuple(held) + (saying,)
    names = names_of(*sayings)
    worths = []
    for (path, forms), _ in tree_of(sayings, names):
        sure = tuple((form[0] - 1,) + form[1:] for form in forms[:-1])
        worths += [form_worth(forms[-1], place) for place in vertices(path + sure, len(names))]
    return (min(worths), max(worths)) if worths else None


class Holding(unittest.TestCase):
    def test_by_hand(self):
        book = Book()
        self.assertEqual((book.held(), book.names(), book.together()), ((), (), YES))
        self.assertEqual(book.hold(X), 0)
        self.assertEqual(book.together(), X)
        self.assertEqual(book.hold(EITHER), 1)
        self.assertEqual(book.hold(X), 2)
        self.assertEqual(book.hold(("and", Z, Y)), 3)
        self.assertEqual(book.held(), (X, EITHER, X, ("and", Z, Y)))
        self.assertEqual(book.names(), ("x", "y", "z"))
        self.assertEqual(book.together(), ("and", ("and", ("and", X, EITHER), X), ("and", Z, Y)))
        self.assertIsNone(book.drop(0))
        self.assertEqual(book.held(), (EITHER, X, ("and", Z, Y)))
        self.assertIsNone(book.drop(2))
        self.assertIsNone(book.drop(0))
        self.assertEqual(book.held(), (X,))
        self.assertEqual(book.hold(Y), 1)
        self.assertEqual(book.names(), ("x", "y"))

    def test_four_and_five(self):
        book = book_of(X, X, X, X)
        for saying in (X, YES, with_marks(30, [X, Y, Z, W])):
            check_raises(self, errors.TooMany, {"what": "held"}, book.hold, saying)
        self.assertEqual(book.held(), (X,) * 4)
        book.drop(3)
        self.assertEqual(book.hold(Y), 3)

    def test_drop_out_of_range(self):
        for book in (Book(), book_of(X), book_of(X, Y, X)):
            size = len(book.held())
            for number in (-1, size, size + 1, -size, 10 ** 20):
                if not 0 <= number < size:
                    check_raises(self, errors.OutOfRange, {"value": number}, book.drop, number)

    def test_bounds(self):
        for leaves, most in (([YES, NO], 12), ([X], 12), ([X, Y], 9), ([X, Y, Z], 7)):
            for count in range(4):
                # Each held saying counts, also one that is held twice.
                book = book_of(*[with_marks(1, leaves[:2])] * count)
                kept = with_marks(most - count, leaves)
                passed = with_marks(most - count + 1, leaves)
                for function in (book.hold, book.range_of, book.answer):
                    check_raises(self, errors.TooMany, {"what": "marks"}, function, passed)
                book.range_of(kept)
                book.answer(kept)
                self.assertEqual(book.held(), (with_marks(1, leaves[:2]),) * count)
                book.hold(kept)
        book = book_of(("and", X, Y))
        for function in (book.hold, book.range_of, book.answer, book.uses_for):
            check_raises(self, errors.TooMany, {"what": "unknowns"}, function, ("or", Z, W))
            check_raises(self, errors.TooMany, {"what": "unknowns"}, function, with_marks(30, [Z, W]))
        self.assertEqual(book.held(), (("and", X, Y),))

    def test_errors_change_nothing(self):
        book = book_of(X, Y)
        book.drop(1)
        book.undo()
        for wrong in (lambda: book.hold(("and", Z, W)), lambda: book.drop(7), lambda: book.tried((Z, W), X)):
            with self.assertRaises(errors.HalfError):
                wrong()
        self.assertEqual(book.held(), (X, Y))
        book.redo()
        self.assertEqual(book.held(), (X,))


class Undoing(unittest.TestCase):
    def test_by_hand(self):
        book = Book()
        check_raises(self, errors.NothingToUndo, {}, book.undo)
        check_raises(self, errors.NothingToRedo, {}, book.redo)
        book.hold(X)
        book.hold(Y)
        book.drop(0)
        self.assertIsNone(book.undo())
        self.assertEqual(book.held(), (X, Y))
        book.undo()
        self.assertEqual(book.held(), (X,))
        self.assertIsNone(book.redo())
        self.assertEqual(book.held(), (X, Y))
        book.redo()
        self.assertEqual(book.held(), (Y,))
        check_raises(self, errors.NothingToRedo, {}, book.redo)
        book.undo()
        book.hold(X)
        self.assertEqual(book.held(), (X, Y, X))
        check_raises(self, errors.NothingToRedo, {}, book.redo)
        for left in ((X, Y), (X,), ()):
            book.undo()
            self.assertEqual(book.held(), left)
        check_raises(self, errors.NothingToUndo, {}, book.undo)
        for left in ((X,), (X, Y), (X, Y, X)):
            book.redo()
            self.assertEqual(book.held(), left)

    def test_at_random(self):
        source = random.Random(351)
        book, states, at = Book(), [()], 0
        for _ in range(2000):
            kind = source.randrange(5)
            if kind < 2 and len(states[at]) < 4:
                saying = source.choice((X, Y, EITHER, neg(X)))
                self.assertEqual(book.hold(saying), len(states[at]))
                states = states[:at + 1] + [states[at] + (saying,)]
                at += 1
            elif kind == 2 and states[at]:
                number = source.randrange(len(states[at]))
                book.drop(number)
                states = states[:at + 1] + [states[at][:number] + states[at][number + 1:]]
                at += 1
            elif kind == 3:
                if at == 0:
                    check_raises(self, errors.NothingToUndo, {}, book.undo)
                else:
                    book.undo()
                    at -= 1
            elif kind == 4:
                if at == len(states) - 1:
                    check_raises(self, errors.NothingToRedo, {}, book.redo)
                else:
                    book.redo()
                    at += 1
            self.assertEqual(book.held(), states[at])


class Ranges(unittest.TestCase):
    def check(self, held, saying):
        book = book_of(*held)
        found = book.range_of(saying)
        expected = range_anew(held, saying)
        names = names_of(*held, saying)
        self.assertIs(book.is_possible(), expected is not None)
        if expected is None:
            self.assertIsNone(found)
            self.assertEqual(book.answer(saying), "none")
            return None
        self.assertEqual((found[0][0], found[1][0]), (pair(expected[0]), pair(expected[1])))
        for value, point in found:
            self.assertTrue(is_value(value))
            self.assertTrue(type(point) is tuple and len(point) == len(names) and all(map(is_value, point)))
            for each in held:
                self.assertEqual(worth_at(each, names, point), 1)
            self.assertEqual(worth_at(saying, names, point), Fraction(*value))
        answer = "sure" if expected[0] == 1 else "never" if expected[1] == 0 else "open"
        self.assertEqual(book.answer(saying), answer)
        return found[0][0], found[1][0]

    def test_by_hand(self):
        for held, saying, told in (
                ((), X, (ZERO, ONE)), ((), YES, (ONE, ONE)), ((), NO, (ZERO, ZERO)), ((X,), X, (ONE, ONE)),
                ((X,), neg(X), (ZERO, ZERO)), ((X,), Y, (ZERO, ONE)), ((EITHER,), ("and", X, Y), (ZERO, ONE)),
                ((EITHER, neg(X)), Y, (ONE, ONE)), ((NO,), X, None), ((X, neg(X)), Y, None), ((X, neg(X)), NO, None),
                ((("same", X, neg(X)),), X, (HALF, HALF)), ((("plus", X, Y),), ("and", X, Y), (ZERO, ONE)),
                ((("plus", X, Y),), ("or", X, Y), (HALF, ONE)), ((("leads", X, Y), ("leads", Y, X)), ("same", X, Y),
                                                                  (ONE, ONE)),
                ((("leads", X, Y), X), Y, (ONE, ONE)), ((("same", X, ("times", Y, Y)), ("same", Y, neg(X))), X,
                                                        ((1, 3), (1, 3))),
                ((YES, YES, YES, YES), X, (ZERO, ONE)), ((("same", X, neg(X)),), YES, (ONE, ONE))):
            self.assertEqual(self.check(held, saying), told, (held, saying))

    def test_at_random(self):
        source = random.Random(352)
        answers = {}
        for count, marks, tries in ((0, 2, 15), (1, 3, 90), (2, 2, 90), (3, 1, 60)):
            for _ in range(tries):
                held = [random_saying(source, source.randint(0, marks), NAMES[:count])
                        for _ in range(source.randint(0, 3))]
                saying = random_saying(source, source.randint(0, marks), NAMES[:count])
                self.check(held, saying)
                answer = book_of(*held).answer(saying)
                answers[answer] = answers.get(answer, 0) + 1
        self.assertTrue(all(answers.get(word, 0) > 5 for word in ("none", "sure", "never", "open")), answers)

    def test_great_ones(self):
        source = random.Random(353)
        for count, marks in ((1, 12), (2, 9), (3, 7)):
            for _ in range(8):
                self.check([random_saying(source, marks // 3, NAMES[:count]) for _ in range(2)],
                           random_saying(source, marks - 2 * (marks // 3), NAMES[:count]))

    def test_order_and_doubles_change_nothing(self):
        source = random.Random(354)
        for _ in range(30):
            held = [random_saying(source, source.randint(0, 1), ("x", "y")) for _ in range(3)]
            saying = random_saying(source, 2, ("x", "y"))
            told = self.check(held, saying)
            for order in itertools.permutations(held):
                self.assertEqual(self.check(list(order), saying), told)
            self.assertEqual(self.check(held + held[:1], saying), told)
            more = self.check(held + [random_saying(source, 1, ("x", "y"))], saying)
            if told is None:
                self.assertIsNone(more)
            elif more is not None:
                self.assertTrue(Fraction(*told[0]) <= Fraction(*more[0]) and Fraction(*more[1]) <= Fraction(*told[1]))

    def test_points_for_all_unknowns_in_their_order(self):
        book = book_of(("leads", Y, X))
        for _, point in book.range_of(("and", Z, X)):
            self.assertEqual(len(point), 3)
            y, x, z = [Fraction(*value) for value in point]
            self.assertLessEqual(y, x)
            self.assertIn(min(z, x), (0, 1))

    def test_equal_calls(self):
        book, other = book_of(EITHER, ("leads", X, Y)), book_of(Y, EITHER, ("leads", X, Y))
        other.drop(0)
        for saying in (X, Y, ("times", X, Y), ("same", Y, Z)):
            self.assertEqual(book.range_of(saying), book.range_of(saying))
            self.assertEqual(book.range_of(saying), other.range_of(saying))


class Uses(unittest.TestCase):
    def test_by_hand(self):
        for held, saying, uses in (((), YES, 0), ((), X, None), ((X,), X, 1), ((X,), ("times", X, X), 2), ((X,), Y, None),
                                   ((EITHER, neg(X)), Y, 2), ((X, neg(X)), Y, 2), ((NO,), X, 1), ((X, Y), ("times", X, Y), 2),
                                   ((X, Y), ("and", X, Y), 1), ((X, ("leads", X, Y)), Y, 2)):
            book = book_of(*held)
            self.assertEqual(book.uses_for(saying), uses, (held, saying))
            self.assertEqual(book.uses_for(saying), least_uses(book.together(), saying))
            self.assertIs(uses is not None, book.answer(saying) in ("sure", "none"))

    def test_at_random(self):
        source = random.Random(355)
        found = 0
        for _ in range(80):
            book = book_of(*[random_saying(source, 1, ("x", "y")) for _ in range(source.randint(0, 2))])
            saying = random_saying(source, 2, ("x", "y"))
            uses = book.uses_for(saying)
            self.assertEqual(uses, least_uses(book.together(), saying))
            self.assertIs(uses is not None, book.answer(saying) in ("sure", "none"))
            found += uses is not None
        self.assertGreater(found, 10)

    def test_bounds(self):
        # The marks `and` that put the held sayings together count, too.
        book = book_of(("and", X, Y), ("or", X, Y))
        kept = with_marks(6, [X, Y])
        book.uses_for(kept)
        check_raises(self, errors.TooMany, {"what": "marks"}, book.uses_for, with_marks(7, [X, Y]))
        book.range_of(with_marks(7, [X, Y]))
        for _, _, passed in KEPT_AND_PASSED:
            check_raises(self, errors.TooMany, {"what": "questions"}, Book().uses_for, passed)
            Book().range_of(passed)


class Blocks(unittest.TestCase):
    def test_all_is_taken_back(self):
        book = book_of(X, Y)
        book.undo()
        with book:
            book.hold(Z)
            book.drop(0)
            self.assertEqual(book.held(), (Z,))
            check_raises(self, errors.NothingToRedo, {}, book.redo)
        self.assertEqual(book.held(), (X,))
        book.redo()
        self.assertEqual(book.held(), (X, Y))
        book.undo()
        book.undo()
        check_raises(self, errors.NothingToUndo, {}, book.undo)

    def test_undo_of_what_was_before(self):
        book = book_of(X, Y)
        with book:
            book.undo()
            book.undo()
            self.assertEqual(book.held(), ())
            check_raises(self, errors.NothingToUndo, {}, book.undo)
            book.redo()
            book.hold(Z)
        self.assertEqual(book.held(), (X, Y))
        check_raises(self, errors.NothingToRedo, {}, book.redo)
        book.undo()
        self.assertEqual(book.held(), (X,))

    def test_blocks_in_blocks(self):
        book = book_of(X)
        with book:
            book.hold(Y)
            with book:
                book.hold(Z)
                with book:
                    book.drop(0)
                    book.drop(0)
                    self.assertEqual(book.held(), (Z,))
                self.assertEqual(book.held(), (X, Y, Z))
                book.undo()
                book.undo()
            self.assertEqual(book.held(), (X, Y))
            with book:
                pass
            book.undo()
            self.assertEqual(book.held(), (X,))
        self.assertEqual(book.held(), (X,))
        book.undo()
        self.assertEqual(book.held(), ())

    def test_left_by_errors(self):
        book = book_of(X)
        for error in (errors.OutOfRange, KeyError, ZeroDivisionError):
            with self.assertRaises(error):
                with book:
                    book.hold(Y)
                    with book:
                        book.drop(0)
                        if error is errors.OutOfRange:
                            book.drop(9)
                        raise error()
            self.assertEqual(book.held(), (X,))
        book.undo()
        book.redo()
        self.assertEqual(book.held(), (X,))

    def test_block_gives_the_book(self):
        book = Book()
        with book as held:
            self.assertIs(held, book)
        for _ in range(3):
            with book:
                book.hold(X)
        self.assertEqual(book.held(), ())

    def test_two_books(self):
        first, second = book_of(X), book_of(Y)
        with first:
            first.hold(Z)
            with second:
                second.drop(0)
            second.hold(X)
        self.assertEqual((first.held(), second.held()), ((X,), (Y, X)))

    def test_tried(self):
        book = book_of(EITHER)
        found = book.tried((neg(X),), Y)
        self.assertEqual((found[0][0], found[1][0]), (ONE, ONE))
        self.assertEqual(found, book_of(EITHER, neg(X)).range_of(Y))
        self.assertIsNone(book.tried((neg(X), neg(Y)), Y))
        self.assertEqual(book.tried((), Y), book.range_of(Y))
        self.assertEqual(book.held(), (EITHER,))
        check_raises(self, errors.TooMany, {"what": "held"}, book.tried, (X,) * 4, Y)
        check_raises(self, errors.TooMany, {"what": "unknowns"}, book.tried, (X, Z, W), Y)
        check_raises(self, errors.TooMany, {"what": "marks"}, book.tried, (X, with_marks(9, [X, Y])), Y)
        check_raises(self, errors.TooMany, {"what": "marks"}, book.tried, (X,), with_marks(9, [X, Y]))
        self.assertEqual(book.held(), (EITHER,))
        book.undo()
        check_raises(self, errors.NothingToUndo, {}, book.undo)

    def test_tried_within(self):
        book = book_of(EITHER)
        both = book.tried_within((("leads", X, Y),), (neg(X),), Y)
        self.assertEqual(both, (book.tried((("leads", X, Y), neg(X)), Y), book.tried((("leads", X, Y),), Y)))
        self.assertEqual([[value for value, _ in each] for each in both], [[ONE, ONE], [ONE, ONE]])
        both = book.tried_within((), (neg(X),), Y)
        self.assertEqual([[value for value, _ in each] for each in both], [[ONE, ONE], [ZERO, ONE]])
        self.assertEqual(book.tried_within((neg(X), neg(Y)), (), X), (None, None))
        self.assertEqual(book.tried_within((neg(X),), (neg(Y),), X)[0], None)
        for wrong in (((X,), (X,) * 3), ((X,) * 4, ()), ((Z,), (W,))):
            with self.assertRaises(errors.TooMany):
                book.tried_within(wrong[0], wrong[1], Y)
            self.assertEqual(book.held(), (EITHER,))


class Operators(unittest.TestCase):
    def test_in(self):
        book = book_of(X, EITHER)
        for saying, held in ((X, True), (EITHER, True), (Y, False), (("or", Y, X), False), (YES, False)):
            self.assertIs(saying in book, held)
        self.assertFalse(X in Book())
        book.drop(0)
        self.assertFalse(X in book)
        self.assertTrue(X not in book)

    def test_iteration(self):
        book = book_of(X, EITHER, X)
        self.assertEqual(list(book), [X, EITHER, X])
        self.assertEqual([saying for saying in book], [X, EITHER, X])
        self.assertEqual(list(zip(book, book)), [(X, X), (EITHER, EITHER), (X, X)])
        self.assertEqual(list(Book()), [])

    def test_equal(self):
        book, other = book_of(X, Y), book_of(Y, X)
        self.assertFalse(book == other)
        self.assertTrue(book != other)
        other.drop(0)
        other.hold(Y)
        self.assertTrue(book == other)
        self.assertFalse(book != other)
        other.undo()
        self.assertFalse(book == other)
        other.undo()
        other.undo()
        other.hold(X)
        self.assertTrue(book_of(Y, X) == other)
        self.assertTrue(Book() == Book())
        self.assertFalse(book_of(X) == book_of(X, X))
        for thing in ((X, Y), [X, Y], None, "book", 0):
            self.assertFalse(book == thing)
            self.assertTrue(book != thing)
        with book:
            book.hold(X)
            self.assertFalse(book == book_of(X, Y))
        self.assertTrue(book == book_of(X, Y))
