import random
import unittest
from fractions import Fraction

from halftruths import errors
from halftruths.meshes import Mesh
from tests.helpers import (HALF, NO, ONE, W, X, Y, YES, Z, ZERO, check_raises, determinant, grid, neg, pair, point_of,
                           random_saying, worth)
from tests.meshing import Plain, sums_of_nodes

NAMES = ("x", "y", "z")


def random_mesh(source, count, cuts):
    """A mesh with so many cuts of random edges, and the same one reckoned anew."""
    plain = Plain(NAMES[:count])
    for _ in range(cuts if count else 0):
        plain.cut(*source.choice(sorted(plain.edges())))
    return Mesh(NAMES[:count], cuts=tuple(plain.cuts)), plain


def long_mesh():
    """A mesh of one name with 300 nodes."""
    return Mesh(("x",), cuts=tuple((0, k) for k in range(1, 299)))


def tents(count):
    """A saying that goes up and down so many times 2 times."""
    saying = X
    for _ in range(count):
        saying = ("same", saying, neg(saying))
    return saying


class Meshes(unittest.TestCase):
    def test_first_meshes(self):
        mesh = Mesh(())
        self.assertEqual((mesh.names, mesh.nodes(), mesh.tiles(), mesh.cuts()), ((), ((1,),), ((0,),), ()))
        mesh = Mesh(("x",))
        self.assertEqual((mesh.nodes(), mesh.tiles()), (((0, 1), (1, 1)), ((0, 1),)))
        mesh = Mesh(("y", "x"))
        self.assertEqual(mesh.names, ("y", "x"))
        self.assertEqual(mesh.nodes(), ((0, 0, 1), (1, 0, 1), (0, 1, 1), (1, 1, 1)))
        self.assertEqual(mesh.tiles(), ((0, 1, 3), (0, 2, 3)))
        mesh = Mesh(NAMES)
        self.assertEqual(mesh.nodes()[3:6], ((1, 1, 0, 1), (0, 0, 1, 1), (1, 0, 1, 1)))
        self.assertEqual(mesh.tiles(),
                         ((0, 1, 3, 7), (0, 1, 5, 7), (0, 2, 3, 7), (0, 2, 6, 7), (0, 4, 5, 7), (0, 4, 6, 7)))

    def test_cut_by_hand(self):
        mesh = Mesh(("x", "y"))
        self.assertEqual(mesh.cut(0, 3), 4)
        self.assertEqual(mesh.nodes()[4], (1, 1, 2))
        self.assertEqual(mesh.tiles(), ((0, 1, 4), (0, 2, 4), (1, 3, 4), (2, 3, 4)))
        self.assertEqual(mesh.cut(0, 1), 5)
        self.assertEqual(mesh.tiles(), ((0, 2, 4), (0, 4, 5), (1, 3, 4), (1, 4, 5), (2, 3, 4)))
        self.assertEqual(mesh.cuts(), ((0, 3), (0, 1)))

    def test_cuts_at_random(self):
        source = random.Random(31)
        for count in (1, 2, 3):
            for cuts in (1, 4, 12):
                mesh, plain = random_mesh(source, count, cuts)
                self.assertEqual(mesh.nodes(), tuple(plain.nodes))
                self.assertEqual(mesh.tiles(), tuple(plain.tiles))
                self.assertEqual(mesh.cuts(), tuple(plain.cuts))
                for tile in mesh.tiles():
                    self.assertIn(determinant([list(mesh.nodes()[k]) for k in tile]), (1, -1))

    def test_answers_are_tuples(self):
        mesh = Mesh(("x", "y"), cuts=((0, 3), (0, 1)))
        for found in (mesh.nodes(), mesh.tiles(), mesh.cuts(), mesh.weights((HALF, HALF)), mesh.numbers(X),
                      mesh.settle(("plus", X, Y)), mesh.mean(mesh.numbers(Y))):
            self.assertIs(type(found), tuple)

    def test_no_edge(self):
        mesh = Mesh(("x", "y"))
        for edge in ((1, 0), (3, 0), (1, 2), (0, 0), (0, 4), (-1, 0), (0, -1), (7, 9)):
            check_raises(self, errors.NoEdge, {"edge": edge}, mesh.cut, *edge)
        mesh.cut(0, 3)
        for edge in ((0, 3), (4, 0), (3, 0)):
            check_raises(self, errors.NoEdge, {"edge": edge}, mesh.cut, *edge)
        self.assertEqual(mesh.cuts(), ((0, 3),))
        check_raises(self, errors.NoEdge, {"edge": (0, 0)}, Mesh(()).cut, 0, 0)

    def test_many_nodes(self):
        mesh = long_mesh()
        self.assertEqual(len(mesh.nodes()), 300)
        check_raises(self, errors.TooMany, {"what": "nodes"}, mesh.cut, 0, 299)
        check_raises(self, errors.NoEdge, {"edge": (0, 1)}, mesh.cut, 0, 1)
        mesh.undo()
        self.assertEqual(len(mesh.nodes()), 299)
        self.assertEqual(mesh.cut(1, 2), 299)
        check_raises(self, errors.TooMany, {"what": "nodes"}, mesh.cut, 1, 299)

    def test_made_with_errors(self):
        four = ("x", "y", "z", "w")
        check_raises(self, errors.TooMany, {"what": "unknowns"}, Mesh, four)
        check_raises(self, errors.TooMany, {"what": "unknowns"}, Mesh, four, cuts=((5, 5),))
        check_raises(self, errors.NoEdge, {"edge": (2, 0)}, Mesh, ("x",), cuts=((0, 1), (2, 0), (0, 1)))
        check_raises(self, errors.NoEdge, {"edge": (0, 1)}, Mesh, ("x",), cuts=((0, 1), (0, 1)))
        cuts = tuple((0, k) for k in range(1, 299))
        check_raises(self, errors.TooMany, {"what": "nodes"}, Mesh, ("x",), cuts=cuts + ((0, 299),))
        check_raises(self, errors.NoEdge, {"edge": (9, 9)}, Mesh, ("x",), cuts=cuts + ((9, 9), (0, 299)))
        check_raises(self, errors.TooMany, {"what": "nodes"}, Mesh, ("x",), cuts=cuts + ((0, 299), (9, 9)))

    def test_undo(self):
        mesh = Mesh(("x", "y"))
        check_raises(self, errors.NothingToUndo, {}, mesh.undo)
        source = random.Random(32)
        seen = []
        for _ in range(12):
            seen.append((mesh.nodes(), mesh.tiles(), mesh.cuts()))
            mesh.cut(*source.choice(sorted(Plain(("x", "y"), mesh.cuts()).edges())))
        for before in reversed(seen):
            self.assertIsNone(mesh.undo())
            self.assertEqual((mesh.nodes(), mesh.tiles(), mesh.cuts()), before)
        check_raises(self, errors.NothingToUndo, {}, mesh.undo)
        self.assertEqual(mesh.cut(0, 3), 4)

    def test_undo_of_what_settling_cut(self):
        mesh = Mesh(("x",), cuts=((0, 1),))
        mesh.settle(("plus", X, ("plus", X, X)))
        cuts = mesh.cuts()
        self.assertEqual(cuts, ((0, 1), (0, 2)))
        mesh.undo()
        self.assertEqual(mesh.cuts(), ((0, 1),))
        self.assertEqual(mesh.cut(1, 2), 3)
        mesh.undo()
        mesh.undo()
        check_raises(self, errors.NothingToUndo, {}, mesh.undo)
        self.assertEqual(mesh.settle(("plus", X, X)), (0, 1, 2))

    def test_weights_by_hand(self):
        self.assertEqual(Mesh(()).weights(()), ((0, 1),))
        mesh = Mesh(("x",))
        self.assertEqual(mesh.weights(((2, 3),)), ((0, 1), (1, 2)))
        self.assertEqual(mesh.weights((ONE,)), ((1, 1),))
        mesh.cut(0, 1)
        self.assertEqual(mesh.weights(((2, 3),)), ((1, 1), (2, 1)))
        self.assertEqual(mesh.weights((HALF,)), ((2, 1),))
        self.assertEqual(Mesh(("x", "y")).weights(((1, 3), (1, 2))), ((0, 3), (2, 1), (3, 2)))

    def test_weights_at_random(self):
        source = random.Random(33)
        for count in (0, 1, 2, 3):
            for cuts in (0, 3, 15):
                mesh, plain = random_mesh(source, count, cuts)
                places = sums_of_nodes(mesh, source, 12)
                places += [[Fraction(source.randrange(8), 7) for _ in range(count)] for _ in range(8)]
                for place in places:
                    point = point_of(place)
                    self.assertEqual(mesh.weights(point), plain.weights(point))
                for number, node in enumerate(mesh.nodes()):
                    point = point_of([Fraction(p, node[-1]) for p in node[:-1]])
                    self.assertEqual(mesh.weights(point), ((number, 1),))


class Settling(unittest.TestCase):
    def test_example(self):
        mesh = Mesh(("x",))
        self.assertEqual(mesh.numbers(("plus", X, X)), (0, 1))
        self.assertFalse(mesh.is_settled(("plus", X, X)))
        self.assertEqual(mesh.settle(("plus", X, X)), (0, 1, 2))
        self.assertEqual((mesh.cuts(), mesh.nodes()[2]), (((0, 1),), (1, 2)))
        self.assertTrue(mesh.is_settled(("plus", X, X)))

    def test_numbers_at_random(self):
        source = random.Random(34)
        for count in (0, 1, 2, 3):
            for _ in range(6):
                mesh, plain = random_mesh(source, count, 8)
                saying = random_saying(source, 5, NAMES[:count])
                before = mesh.cuts()
                self.assertEqual(mesh.numbers(saying), plain.numbers(saying))
                self.assertIs(mesh.is_settled(saying), plain.is_settled(saying))
                self.assertEqual(mesh.cuts(), before)

    def test_settle_at_random(self):
        source = random.Random(35)
        for count, marks in ((0, 4), (1, 6), (2, 4), (3, 3)):
            for cuts in (0, 0, 0, 3):
                mesh, plain = random_mesh(source, count, cuts)
                saying = random_saying(source, marks, NAMES[:count])
                self.assertEqual(mesh.settle(saying), plain.settle(saying))
                self.assertEqual((mesh.cuts(), mesh.tiles()), (tuple(plain.cuts), tuple(plain.tiles)))
                self.assertTrue(mesh.is_settled(saying))
                self.assertEqual(mesh.settle(saying), mesh.numbers(saying))
                self.assertEqual(mesh.cuts(), tuple(plain.cuts))

    def test_straight_when_settled(self):
        source = random.Random(36)
        for count, marks in ((1, 8), (2, 6), (3, 5)):
            for _ in range(3):
                saying = random_saying(source, marks, NAMES[:count])
                mesh = Mesh(NAMES[:count])
                heights = mesh.settle(saying)
                for place in sums_of_nodes(mesh, source, 20) + grid(count, 3):
                    self.assertEqual(mesh.value(heights, point_of(place)), pair(worth(saying, mesh.names, place)))

    def test_greatest_difference_first(self):
        saying = ("plus", ("plus", X, Y), ("or", X, ("times", X, Y)))
        for names in (("x", "y"), ("y", "x")):
            mesh, plain = Mesh(names), Plain(names)
            self.assertEqual(mesh.settle(saying), plain.settle(saying))
            self.assertEqual(mesh.cuts(), tuple(plain.cuts))

    def test_which_edge_is_cut_first(self):
        # With these, another order of the open edges would make other cuts.
        for saying in (neg(("same", ("times", ("or", neg(X), X), X), ("plus", Y, Y))),
                       ("same", X, ("same", ("same", Y, neg(Y)), X)),
                       ("plus", ("yes",), ("leads", Y, ("same", Y, ("times", neg(X), ("leads", X, Y))))),
                       ("or", neg(("and", ("times", Y, Y), neg(X))), neg(X)),
                       neg(("leads", ("times", Z, ("plus", Y, Y)), neg(("leads", X, Y)))),
                       ("times", ("or", Z, Z), ("times", Y, ("times", ("and", Z, X), X)))):
            for names in (("x", "y", "z"), ("z", "y", "x")):
                mesh, plain = Mesh(names), Plain(names)
                self.assertEqual(mesh.settle(saying), plain.settle(saying))
                self.assertEqual(mesh.cuts(), tuple(plain.cuts))

    def test_names_that_do_not_stand_in_it(self):
        mesh = Mesh(("y", "x", "w"))
        self.assertEqual(mesh.settle(tents(1)), mesh.numbers(tents(1)))
        self.assertTrue(mesh.is_settled(tents(1)))
        self.assertEqual(mesh.numbers(NO), (0,) * len(mesh.nodes()))

    def test_unknown_names(self):
        mesh = Mesh(("x",))
        for function in (mesh.numbers, mesh.is_settled, mesh.settle):
            check_raises(self, errors.UnknownName, {"name": "z"}, function, ("and", X, ("or", Z, ("and", Y, W))))
            check_raises(self, errors.UnknownName, {"name": "y"}, function, ("and", tents(8), ("same", Y, Z)))
            function(YES)
        check_raises(self, errors.UnknownName, {"name": "x"}, Mesh(()).numbers, X)
        self.assertEqual(mesh.cuts(), ())

    def test_more_nodes_than_there_may_be(self):
        mesh = Mesh(("x",), cuts=((0, 1), (0, 2)))
        before = (mesh.nodes(), mesh.tiles(), mesh.cuts())
        check_raises(self, errors.TooMany, {"what": "nodes"}, mesh.settle, tents(8))
        self.assertEqual((mesh.nodes(), mesh.tiles(), mesh.cuts()), before)
        self.assertEqual(mesh.cut(0, 3), 4)
        self.assertEqual(mesh.settle(("plus", X, X)), (0, 1, 2, 2, 2))

    def test_just_as_many_nodes_as_there_may_be(self):
        mesh = long_mesh()
        mesh.undo()
        saying = ("plus", X, X)
        self.assertTrue(mesh.is_settled(saying))
        # The slope of this one changes at 2/3, which is no node yet.
        self.assertEqual(len(mesh.settle(("times", X, ("times", X, X)))), 300)
        mesh.undo()
        mesh.cut(0, 298)
        before = mesh.cuts()
        check_raises(self, errors.TooMany, {"what": "nodes"}, mesh.settle, ("times", X, ("times", X, X)))
        self.assertEqual(mesh.cuts(), before)
        self.assertEqual(mesh.settle(saying), mesh.numbers(saying))


class Heights(unittest.TestCase):
    def test_wrong_size(self):
        mesh = Mesh(("x",), cuts=((0, 1),))
        for heights in ((), (0, 1), (0, 1, 2, 0), (9, 9)):
            check_raises(self, errors.WrongSize, {"size": len(heights)}, mesh.value, heights, (HALF,))
            check_raises(self, errors.WrongSize, {"size": len(heights)}, mesh.mean, heights)

    def test_not_a_function(self):
        mesh = Mesh(("x",), cuts=((0, 1),))
        for heights, place in (((-1, 1, 2), 0), ((2, 5, 9), 0), ((0, 2, 2), 1), ((0, 1, 3), 2), ((1, 1, -1), 2)):
            check_raises(self, errors.NotAFunction, {"place": place}, mesh.value, heights, (HALF,))
            check_raises(self, errors.NotAFunction, {"place": place}, mesh.mean, heights)
        self.assertEqual(mesh.value((0, 1, 2), (HALF,)), ONE)

    def test_value_at_random(self):
        source = random.Random(37)
        for count in (0, 1, 2, 3):
            for _ in range(4):
                mesh, plain = random_mesh(source, count, 9)
                heights = tuple(source.randrange(node[-1] + 1) for node in mesh.nodes())
                for place in sums_of_nodes(mesh, source, 10) + grid(count, 2):
                    point = point_of(place)
                    weights = plain.weights(point)
                    below = sum(times * plain.nodes[number][-1] for number, times in weights)
                    total = Fraction(sum(times * heights[number] for number, times in weights), below)
                    self.assertEqual(mesh.value(heights, point), pair(total))

    def test_means_by_hand(self):
        for saying, names, told in ((YES, (), (1, 1)), (NO, (), (0, 1)), (X, ("x",), (1, 2)),
                                    (("plus", X, X), ("x",), (3, 4)), (("and", X, Y), ("x", "y"), (1, 3)),
                                    (("times", X, Y), ("x", "y"), (1, 6)), (("same", X, Y), ("y", "x"), (2, 3)),
                                    (("times", ("times", X, Y), Z), NAMES, (1, 24)), (("or", X, Y), NAMES, (2, 3))):
            mesh = Mesh(names)
            heights = mesh.settle(saying)
            self.assertEqual(mesh.mean(heights), told)
            # More cuts change nothing.
            for _ in range(2 if names else 0):
                mesh.cut(*mesh.tiles()[-1][:2])
            self.assertEqual(mesh.mean(mesh.numbers(saying)), told)

    def test_means_at_random(self):
        source = random.Random(38)
        for count in (1, 2, 3):
            for _ in range(4):
                mesh, plain = random_mesh(source, count, 7)
                heights = tuple(source.randrange(node[-1] + 1) for node in mesh.nodes())
                total = Fraction(0)
                for tile in plain.tiles:
                    corners = [plain.place(number) + [1] for number in tile]
                    # The tile is as great as the amount of this determinant divided by n!.
                    share = abs(determinant(corners))
                    for k in range(count):
                        share = share / (k + 1)
                    values = [Fraction(heights[number], plain.nodes[number][-1]) for number in tile]
                    total += share * sum(values) / (count + 1)
                self.assertEqual(mesh.mean(heights), pair(total))

    def test_ends(self):
        mesh = Mesh(())
        self.assertEqual((mesh.value((1,), ()), mesh.value((0,), ()), mesh.mean((1,))), (ONE, ZERO, ONE))
        check_raises(self, errors.NotAFunction, {"place": 0}, mesh.value, (2,), ())
