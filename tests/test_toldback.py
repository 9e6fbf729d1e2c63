import random
import unittest
from fractions import Fraction

from halftruths import errors
from halftruths.ladders import is_ladder, ladder_at, ladder_of
from halftruths.meshes import Mesh
from halftruths.toldback import ladder_difference, settled_heights, told_heights
from tests.helpers import (HALF, NO, ONE, W, X, Y, YES, Z, ZERO, check_raises, grid, neg, pair, point_of, random_saying,
                           worth)
from tests.meshing import Plain, sums_of_nodes

NAMES = ("x", "y", "z")
BIG = tuple((0, k) for k in range(1, 25))


def fibonacci_cuts(count):
    """Cuts of the newest edge, so that denominators become great."""
    return ((0, 1),) + tuple((k, k + 1) for k in range(1, count))


def tents(count, name):
    """A ladder of tents in tents."""
    rows = [("unknown", name)]
    for _ in range(count):
        rows.append(("not", len(rows) - 1))
        rows.append(("same", len(rows) - 2, len(rows) - 1))
    return tuple(rows)


class ToldHeights(unittest.TestCase):
    def check(self, names, cuts, heights, source):
        ladder = told_heights(names, cuts, heights)
        self.assertTrue(is_ladder(ladder))
        self.assertTrue(all(row[1] in names for row in ladder if row[0] == "unknown"))
        mesh = Mesh(names, cuts=cuts)
        for place in sums_of_nodes(mesh, source, 25) + grid(len(names), 3):
            point = point_of(place)
            self.assertEqual(ladder_at(ladder, names, point), mesh.value(heights, point))
        made, _ = settled_heights(ladder, names)
        self.assertLessEqual(len(made) + 2 ** len(names), 300)
        # On a mesh of which both are cut finer, equal numbers at the nodes tell that both are the same.
        fine = Mesh(names, cuts=cuts)
        for node, number in zip(fine.nodes(), fine.settle_ladder(ladder)):
            self.assertEqual(mesh.value(heights, point_of([Fraction(p, node[-1]) for p in node[:-1]])),
                             pair(Fraction(number, node[-1])))

    def test_by_hand(self):
        for names, cuts, heights in (
                ((), (), (0,)), ((), (), (1,)), (("x",), (), (0, 0)), (("x",), (), (1, 1)), (("x",), (), (0, 1)),
                (("x",), (), (1, 0)), (("b",), ((0, 1),), (0, 0, 2)), (("b",), ((0, 1),), (1, 1, 0)),
                (("y", "x"), (), (0, 1, 0, 0)), (("y", "x"), ((0, 3),), (0, 1, 1, 0, 1)), (NAMES, (), (1,) * 8)):
            self.check(names, cuts, heights, random.Random(61))
        ladder = told_heights(("x",), ((0, 1),), (0, 1, 2))
        self.assertIsNone(ladder_difference(ladder, ladder_of(("plus", X, X))))

    def test_at_random(self):
        source = random.Random(62)
        for count in (1, 2, 3):
            for cuts in (1, 3, 10, 24):
                plain = Plain(NAMES[:count])
                for _ in range(cuts):
                    plain.cut(*source.choice(sorted(plain.edges())))
                for _ in range(2):
                    heights = tuple(source.randrange(node[-1] + 1) for node in plain.nodes)
                    self.check(plain.names, tuple(plain.cuts), heights, source)
                self.check(plain.names, tuple(plain.cuts), tuple(node[-1] for node in plain.nodes), source)

    def test_great_denominators(self):
        source = random.Random(63)
        cuts = fibonacci_cuts(24)
        mesh = Mesh(("x",), cuts=cuts)
        self.assertEqual(mesh.nodes()[-1][-1], 121393)
        for _ in range(4):
            self.check(("x",), cuts, tuple(source.randrange(node[-1] + 1) for node in mesh.nodes()), source)
        cube = Mesh(NAMES, cuts=((0, 7),) + tuple((k, k + 1) for k in range(7, 30)))
        self.assertEqual(len(cube.cuts()), 24)
        for _ in range(2):
            heights = tuple(source.randrange(node[-1] + 1) for node in cube.nodes())
            self.check(NAMES, cube.cuts(), heights, source)

    def test_errors_in_their_order(self):
        told = told_heights
        four = ("x", "y", "z", "w")
        self.check(("x",), BIG, (0,) * 26, random.Random(64))
        many = errors.TooMany
        check_raises(self, many, {"what": "cuts"}, told, ("x",), BIG + ((0, 25),), ())
        check_raises(self, many, {"what": "cuts"}, told, four, ((5, 5),) * 25, ())
        check_raises(self, many, {"what": "unknowns"}, told, four, ((5, 5),), ())
        check_raises(self, errors.NoEdge, {"edge": (1, 0)}, told, ("x",), ((0, 1), (1, 0)), (5,))
        check_raises(self, errors.WrongSize, {"size": 2}, told, ("x",), ((0, 1),), (9, 9))
        check_raises(self, errors.WrongSize, {"size": 4}, told, ("x",), ((0, 1),), (0, 1, 1, 1))
        check_raises(self, errors.NotAFunction, {"place": 2}, told, ("x",), ((0, 1),), (0, 1, 3))
        check_raises(self, errors.NotAFunction, {"place": 0}, told, ("x",), ((0, 1),), (-1, 1, 3))


class SettledHeights(unittest.TestCase):
    def test_as_the_saying(self):
        source = random.Random(65)
        for count, marks in ((0, 3), (1, 6), (2, 4), (3, 3)):
            for _ in range(5):
                saying = random_saying(source, marks, NAMES[:count])
                mesh = Mesh(NAMES[:count])
                heights = mesh.settle(saying)
                self.assertEqual(settled_heights(ladder_of(saying), NAMES[:count]), (mesh.cuts(), heights))

    def test_all_rows_are_settled(self):
        ladder = (("unknown", "x"), ("plus", 0, 0), ("not", 0))
        self.assertEqual(settled_heights(ladder, ("x",)), (((0, 1),), (1, 0, 1)))
        self.assertEqual(settled_heights((("yes",),), ()), ((), (1,)))
        self.assertEqual(settled_heights((("yes",), ("no",)), ("x", "y")), ((), (0, 0, 0, 0)))

    def test_order_of_the_names(self):
        ladder = ladder_of(("plus", X, ("times", X, Y)))
        first = settled_heights(ladder, ("x", "y"))
        second = settled_heights(ladder, ("y", "x"))
        self.assertNotEqual(first, second)
        plain = Plain(("y", "x"))
        heights = plain.settle(("plus", X, ("times", X, Y)))
        self.assertEqual(second, (tuple(plain.cuts), heights))

    def test_errors_in_their_order(self):
        many = errors.TooMany
        ladder = (("unknown", "x"), ("unknown", "w"), ("unknown", "y"), ("yes",))
        check_raises(self, many, {"what": "unknowns"}, settled_heights, ladder, ("a", "b", "c", "d"))
        check_raises(self, errors.UnknownName, {"name": "w"}, settled_heights, ladder, ("x",))
        check_raises(self, errors.UnknownName, {"name": "x"}, settled_heights, tents(20, "x"), ("y",))
        check_raises(self, many, {"what": "nodes"}, settled_heights, tents(20, "x"), ("x",))
        settled_heights(ladder, ("y", "w", "x"))


class LadderDifference(unittest.TestCase):
    def check(self, first, second, names):
        """Two sayings as ladders; the names are those of both in their order."""
        found = ladder_difference(ladder_of(first), ladder_of(second))
        if found is None:
            mesh = Mesh(names)
            mesh.settle(first)
            mesh.settle(second)
            self.assertEqual(mesh.numbers(first), mesh.numbers(second))
            for place in grid(len(names), 5):
                self.assertEqual(worth(first, names, place), worth(second, names, place))
        else:
            self.assertEqual(len(found), len(names))
            self.assertNotEqual(ladder_at(ladder_of(first), names, found), ladder_at(ladder_of(second), names, found))
        return found

    def test_by_hand(self):
        self.assertIsNone(self.check(("and", X, Y), ("and", Y, X), ("x", "y")))
        self.assertIsNone(self.check(("or", X, Y), ("leads", ("leads", X, Y), Y), ("x", "y")))
        self.assertIsNone(self.check(YES, ("leads", X, X), ("x",)))
        self.assertIsNone(self.check(YES, neg(NO), ()))
        self.assertEqual(self.check(YES, NO, ()), ())
        self.assertIsNotNone(self.check(X, Y, ("x", "y")))
        self.assertEqual(self.check(("plus", X, X), ("or", X, X), ("x",)), (HALF,))

    def test_names_in_rows_that_count_for_nothing(self):
        first = (("unknown", "y"), ("unknown", "x"))
        second = (("unknown", "z"), ("unknown", "x"), ("not", 1))
        self.assertEqual(ladder_difference(first, ladder_of(X)), None)
        self.assertEqual(len(ladder_difference(first, second)), 3)

    def test_at_random(self):
        source = random.Random(66)
        alike = 0
        for count, marks in ((1, 4), (2, 3), (3, 2)):
            for _ in range(40):
                first = random_saying(source, source.randrange(marks), NAMES[:count])
                second = random_saying(source, source.randrange(marks), NAMES[:count])
                names = []
                for row in ladder_of(first) + ladder_of(second):
                    if row[0] == "unknown" and row[1] not in names:
                        names.append(row[1])
                alike += self.check(first, second, tuple(names)) is None
        self.assertGreater(alike, 8)

    def test_bounds(self):
        many = errors.TooMany
        two = ladder_of(("and", X, Y))
        check_raises(self, many, {"what": "unknowns"}, ladder_difference, two, ladder_of(("and", Z, W)))
        check_raises(self, many, {"what": "unknowns"}, ladder_difference, tents(20, "x"),
                     ladder_of(("and", Z, ("and", W, Y))))
        check_raises(self, many, {"what": "nodes"}, ladder_difference, tents(20, "x"), two)
        check_raises(self, many, {"what": "nodes"}, ladder_difference, two, tents(20, "z"))
        self.assertIsNone(ladder_difference(two, ladder_of(("and", Y, X))))
        self.assertEqual(ladder_difference((("yes",),), (("unknown", "x"), ("no",))) in ((ZERO,), (ONE,)), True)
