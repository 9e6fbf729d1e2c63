"""Ladders for sets of chains, and the chains of ladders."""

from halftruths.chains import valid_of_pair
from halftruths.errors import OutOfRange
from halftruths.failings import failings_over
from halftruths.ladders import ladder_unknowns
from halftruths.meshes import Mesh
from halftruths.semigroups import sums_pair
from halftruths.toldback import mesh_with, told_over
from halftruths.values import fraction

GREATEST_NUMBER = 12


def check_numbers(numbers):
    """Raises OutOfRange for the first number that is not allowed."""
    for number in numbers:
        if not 1 <= number <= GREATEST_NUMBER:
            raise OutOfRange(number)


def told_chains(numbers, name):
    """A ladder in the name that is valid in exactly the chains that divide some of the numbers."""
    check_numbers(numbers)
    # A chain that divides none of them has a place that is not among these, one of its own denominator.
    return told_places({fraction(above, number): True for number in numbers for above in range(number + 1)}, name)


def told_multiples(numbers, name):
    """A ladder in the name that can be yes in exactly the chains that are multiples of some of the numbers."""
    check_numbers(numbers)
    return told_places({fraction(1, number): True for number in numbers}, name)


def told_places(places, name):
    """A ladder in the name that is 1 at just some places, the keys of a dict."""
    mesh = mesh_with([(place,) for place in places], (name,))
    nodes = mesh.nodes()
    # A node for one name is a pair just as the value that it stands for. Between two places there must be another one.
    between = [edge for edge in mesh.edges() if nodes[edge[0]] in places and nodes[edge[1]] in places]
    for first, second in between:
        mesh.cut(first, second)
    return told_over(mesh, [node[-1] if node in places else 0 for node in mesh.nodes()])


def settled_numbers(ladder):
    """(mesh, denominators, heights): the first mesh for the unknowns of a ladder when the ladder has been settled."""
    mesh = Mesh(ladder_unknowns(ladder))
    heights = mesh.settle_ladder(ladder)
    return mesh, [node[-1] for node in mesh.nodes()], heights


def ladder_valid_chains(ladder):
    """None if a ladder is valid in all chains, otherwise the tuple of the chains in which it is valid."""
    mesh, ones, heights = settled_numbers(ladder)
    return valid_of_pair(sums_pair(list(failings_over(mesh, ones, heights))))


def ladder_yes_chains(ladder):
    """The pair (G, E) of the chains in which a ladder can be yes."""
    mesh, ones, heights = settled_numbers(ladder)
    return sums_pair(list(failings_over(mesh, heights, [0] * len(ones))))
