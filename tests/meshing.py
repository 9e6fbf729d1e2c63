"""Meshes reckoned anew, step by step as the document tells them."""

import itertools
import math
from fractions import Fraction

from tests.helpers import MARKS, determinant, parts_first, worth


class Plain:
    """A mesh that is cut as told; all else is looked up in its nodes and tiles."""

    def __init__(self, names, cuts=()):
        self.names = names
        self.nodes = [tuple(k // 2 ** i % 2 for i in range(len(names))) + (1,) for k in range(2 ** len(names))]
        self.tiles = []
        for order in itertools.permutations(range(len(names))):
            ones = [sorted(order[:k]) for k in range(len(names) + 1)]
            self.tiles.append(tuple(sum(2 ** i for i in chosen) for chosen in ones))
        self.tiles.sort()
        self.cuts = []
        for edge in cuts:
            self.cut(*edge)

    def edges(self):
        return {pair for tile in self.tiles for pair in itertools.combinations(tile, 2)}

    def cut(self, u, v):
        assert (u, v) in self.edges()
        w = len(self.nodes)
        self.nodes.append(tuple(a + b for a, b in zip(self.nodes[u], self.nodes[v])))
        found = []
        for tile in self.tiles:
            if u in tile and v in tile:
                found.append(tuple(sorted(set(tile) - {u} | {w})))
                found.append(tuple(sorted(set(tile) - {v} | {w})))
            else:
                found.append(tile)
        self.tiles = sorted(found)
        self.cuts.append((u, v))

    def place(self, number):
        return [Fraction(p, self.nodes[number][-1]) for p in self.nodes[number][:-1]]

    def number(self, saying, node):
        found = worth(saying, self.names, self.place(node)) * self.nodes[node][-1]
        assert found.denominator == 1
        return int(found)

    def numbers(self, saying):
        return tuple(self.number(saying, node) for node in range(len(self.nodes)))

    def open_edges(self, word):
        """The open edges for a word with a mark, the one that is cut first standing first."""
        a, b = self.numbers(word[1]), self.numbers(word[2])
        whole = [node[-1] for node in self.nodes]
        if word[0] in ("plus", "times"):
            balance = [p + q - d for p, q, d in zip(a, b, whole)]
        else:
            balance = [p - q for p, q in zip(a, b)]
        found = [(-abs(balance[u] - balance[v]), u, v) for u, v in self.edges()
                 if balance[u] > 0 > balance[v] or balance[u] < 0 < balance[v]]
        return sorted(found)

    def is_settled(self, saying):
        return not any(word[0] in MARKS and self.open_edges(word) for word in parts_first(saying))

    def settle(self, saying):
        for word in parts_first(saying):
            if word[0] in MARKS:
                while self.open_edges(word):
                    self.cut(*self.open_edges(word)[0][1:])
        return self.numbers(saying)

    def weights(self, point):
        """By Cramer's rule in each tile."""
        whole = 1
        for _, below in point:
            whole = math.lcm(whole, below)
        target = [p * (whole // q) for p, q in point] + [whole]
        for tile in self.tiles:
            rows = [list(self.nodes[number]) for number in tile]
            below = determinant(rows)
            assert below in (1, -1)
            times = [below * determinant(rows[:k] + [target] + rows[k + 1:]) for k in range(len(tile))]
            if min(times) >= 0:
                return tuple(sorted((number, n) for number, n in zip(tile, times) if n))
        raise AssertionError(point)


def sums_of_nodes(mesh, source, count):
    """Some points that are sums of nodes of a tile."""
    nodes = mesh.nodes()
    found = []
    for _ in range(count):
        tile = source.choice(mesh.tiles())
        times = [source.randrange(4) for _ in tile]
        if not any(times):
            times[0] = 1
        total = [sum(n * nodes[number][k] for n, number in zip(times, tile)) for k in range(len(nodes[0]))]
        found.append([Fraction(p, total[-1]) for p in total[:-1]])
    return found


def whole_worth(saying, numbers, parts):
    """The value of a saying in whole numbers of parts; numbers has those of the unknowns, by their names."""
    kind = saying[0]
    if kind == "unknown":
        return numbers[saying[1]]
    if kind in ("yes", "no"):
        return parts if kind == "yes" else 0
    a = whole_worth(saying[1], numbers, parts)
    if kind == "not":
        return parts - a
    b = whole_worth(saying[2], numbers, parts)
    if kind == "plus":
        return min(parts, a + b)
    if kind == "times":
        return max(0, a + b - parts)
    if kind == "leads":
        return min(parts, parts - a + b)
    if kind == "same":
        return parts - abs(a - b)
    return min(a, b) if kind == "and" else max(a, b)


def chain_numbers(names, parts):
    """For all points of a chain the numbers of the names, in parts."""
    return [dict(zip(names, numbers)) for numbers in itertools.product(range(parts + 1), repeat=len(names))]


def fails_anew(first, second, names, chain):
    """Whether the second saying is below 1 at some point of the chain at which the first one is 1."""
    return any(whole_worth(first, numbers, chain) == chain and whole_worth(second, numbers, chain) < chain
               for numbers in chain_numbers(names, chain))
