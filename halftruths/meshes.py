"""Meshes: the cube in tiles, which are cut until a saying is one form on each tile."""

from itertools import permutations
from math import factorial

from halftruths.bounds import check_unknowns
from halftruths.errors import NoEdge, NotAFunction, NothingToUndo, TooMany, WrongSize
from halftruths.forms import added
from halftruths.ladders import ladder_of
from halftruths.sayings import unknowns_of
from halftruths.settling import is_ladder_settled, numbers_of_rows, settle_rows
from halftruths.values import check_names, denominator_of, fraction, lowest_terms

MOST_NODES = 300


def first_nodes(count):
    """The list of the nodes of the first mesh for so many unknowns."""
    return [tuple([number >> place & 1 for place in range(count)]) + (1,) for number in range(1 << count)]


def first_tiles(count):
    """The list of the tiles of the first mesh for so many unknowns."""
    found = []
    for order in permutations(range(count)):
        tile = [0]
        for place in order:
            tile.append(tile[-1] + (1 << place))
        found.append(tuple(tile))
    return found


def edges_in(tiles):
    """A dict with the edges in some tiles as keys."""
    return {(first, second): True for tile in tiles for at, second in enumerate(tile) for first in tile[:at]}


class Mesh:
    """A mesh for some names: its nodes, its tiles and the cuts that it was made by."""

    def __init__(self, names, *, cuts=()):
        check_unknowns(len(names))
        self.names = names
        self._nodes = first_nodes(len(names))
        self._tiles = first_tiles(len(names))
        self._edges = edges_in(self._tiles)
        self._cuts = []
        self._past = []
        for first, second in cuts:
            self.cut(first, second)

    def nodes(self):
        """The tuple of the nodes."""
        return tuple(self._nodes)

    def tiles(self):
        """The tuple of the tiles, in ascending order."""
        return tuple(sorted(self._tiles))

    def edges(self):
        """The list of the edges."""
        return list(self._edges)

    def cuts(self):
        """The tuple of the cuts that were made so far."""
        return tuple(self._cuts)

    def cut(self, first, second):
        """Cuts an edge; returns the number of the new node."""
        if (first, second) not in self._edges:
            raise NoEdge((first, second))
        if len(self._nodes) == MOST_NODES:
            raise TooMany("nodes")
        new = len(self._nodes)
        kept = [tile for tile in self._tiles if first not in tile or second not in tile]
        halves = []
        for tile in self._tiles:
            if first in tile and second in tile:
                halves.append(tuple([number for number in tile if number != second]) + (new,))
                halves.append(tuple([number for number in tile if number != first]) + (new,))
        self._nodes.append(added(self._nodes[first], self._nodes[second]))
        self._cuts.append((first, second))
        self._past.append(self._tiles)
        self._tiles = kept + halves
        del self._edges[(first, second)]
        self._edges.update({(number, new): True for tile in halves for number in tile[:-1]})
        return new

    def undo(self):
        """Takes the last cut back."""
        if not self._cuts:
            raise NothingToUndo()
        edge = self._cuts.pop()
        self._nodes.pop()
        self._tiles = self._past.pop()
        # The node that goes has the greatest number, so it stands second in its edges.
        self._edges = {pair: True for pair in self._edges if pair[1] != len(self._nodes)}
        self._edges[edge] = True

    def weights(self, point):
        """The weights of a point for the names."""
        whole = denominator_of(point)
        times = first_weights([above * (whole // below) for above, below in point], whole)
        new = 1 << len(point)
        for first, second in self._cuts:
            if first in times and second in times:
                shared = min(times[first], times[second])
                times[new] = shared
                for end in (first, second):
                    times[end] -= shared
                    if times[end] == 0:
                        del times[end]
            new += 1
        return tuple([(number, times[number]) for number in sorted(list(times))])

    def numbers(self, saying):
        """The tuple of the numbers of a saying at the nodes."""
        check_names(unknowns_of((saying,)), self.names)
        return tuple(numbers_of_rows(ladder_of(saying), self.names, self._nodes)[-1])

    def is_settled(self, saying):
        """Whether a saying is settled over this mesh as it stands."""
        check_names(unknowns_of((saying,)), self.names)
        return is_ladder_settled(ladder_of(saying), self.names, self._nodes, self.edges())

    def settle(self, saying):
        """Settles a saying over this mesh by cuts; returns its heights."""
        check_names(unknowns_of((saying,)), self.names)
        return self.settle_ladder(ladder_of(saying))

    def settle_ladder(self, ladder):
        """Settles a ladder, whose unknowns are among the names; returns its heights."""
        made = len(self._cuts)
        try:
            return tuple(settle_rows(self, ladder))
        except TooMany:
            while len(self._cuts) > made:
                self.undo()
            raise

    def value(self, heights, point):
        """The value of the function with these heights at a point for the names."""
        self.check_heights(heights)
        total = sum([times * heights[number] for number, times in self.weights(point)])
        return fraction(total, denominator_of(point))

    def mean(self, heights):
        """The mean of the function with these heights."""
        self.check_heights(heights)
        above = 0
        below = 1
        for tile in self._tiles:
            wholes = 1
            for number in tile:
                wholes *= self._nodes[number][-1]
            part = sum([heights[number] * (wholes // self._nodes[number][-1]) for number in tile])
            above, below = lowest_terms(above * wholes * wholes + part * below, below * wholes * wholes)
        return fraction(above, below * factorial(len(self.names) + 1))

    def check_heights(self, heights):
        """Raises an error if these are no heights for this mesh."""
        if len(heights) != len(self._nodes):
            raise WrongSize(len(heights))
        for place, height in enumerate(heights):
            if not 0 <= height <= self._nodes[place][-1]:
                raise NotAFunction(place)


def first_weights(numbers, whole):
    """The weights in the first mesh, as a dict, of the point with these numbers, in parts of the whole."""
    times = {}
    left = whole
    node = 0
    for number, place in sorted([(-number, place) for place, number in enumerate(numbers)]) + [(0, 0)]:
        if left + number > 0:
            times[node] = left + number
        left = -number
        node += 1 << place
    return times
