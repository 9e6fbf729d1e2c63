"""The chains in which one function over a mesh is 1 and another one is below 1, both of them straight over it."""

from halftruths.semigroups import Sums
from halftruths.values import fraction


def failings_over(mesh, first, second):
    """The failings for the heights of two functions over a mesh, as a dict: their nodes by their denominators.

    A failing are nodes of one tile, no two of the same denominator, at which the first function is 1; the second
    one is below 1 at the first node. So both fail at each point that is a sum of them with the first one among them.
    """
    nodes = mesh.nodes()
    found = {}
    for tile in mesh.tiles():
        ones = {nodes[number][-1]: nodes[number] for number in tile if first[number] == nodes[number][-1]}
        for number in tile:
            whole = nodes[number][-1]
            if first[number] == whole and second[number] < whole:
                others = sorted([denominator for denominator in ones if denominator != whole])
                found[(whole,) + tuple(others)] = [nodes[number]] + [ones[denominator] for denominator in others]
    return found


def point_of_failings(failings, chain):
    """A point of a chain at which both functions fail; None if there is none."""
    for denominators in sorted(list(failings)):
        if denominators[0] > chain:
            return None
        sums = Sums(denominators)
        if sums.has(chain):
            return point_of_sum(failings[denominators], sums.times_in(chain), chain)
    return None


def point_of_sum(nodes, times, chain):
    """The point that is the sum of nodes, each so many times as its denominator is taken in the chain."""
    total = [0] * len(nodes[0])
    for node in nodes:
        total = [number + times.get(node[-1], 0) * part for number, part in zip(total, node)]
    return tuple([fraction(number, chain) for number in total[:-1]])
