"""Simplices: points, lines, triangles and their like, cut until forms have one sign on each; what they measure.

A node is a tuple of integers (d, p1, .., pn), d above 0, for the point (p1 / d, .., pn / d); a simplex is a tuple
of nodes. Some coordinates may be the same everywhere; the places tell the other ones, counted from 0.
"""

from itertools import permutations
from math import factorial, gcd

from halftruths.corners import determinant
from halftruths.values import lowest_terms
from halftruths.walks import Walk, steps_of


def first_simplices(base, places):
    """The list of the simplices of a cube, in which the coordinates at the places go from 0 to 1.

    The base is the node in which these are 0; the other coordinates stay as they are there.
    """
    found = []
    for order in permutations(places):
        nodes = [base]
        for place in order:
            nodes.append(nodes[-1][:place + 1] + (base[0],) + nodes[-1][place + 2:])
        found.append(tuple(nodes))
    return found


def worth_at(form, node):
    """What a form is at a node, times the first number of the node."""
    return sum([number * other for number, other in zip(form, node)])


def cut_by(simplex, form):
    """The list of (side, part) for parts of a simplex: the form is at least 0 on a part, or at most 0 there."""
    worths = [worth_at(form, node) for node in simplex]
    if min(worths) >= 0:
        return [("least", simplex)]
    if max(worths) <= 0:
        return [("most", simplex)]
    above = worths.index(max(worths))
    below = worths.index(min(worths))
    node = node_between(simplex[above], worths[above], simplex[below], -worths[below])
    found = []
    for place in (above, below):
        found.extend(cut_by(simplex[:place] + (node,) + simplex[place + 1:], form))
    return found


def node_between(first, above, second, below):
    """The node between two nodes at which a form is 0 that is so much above 0 at the first, and below at the second."""
    numbers = [a * below + b * above for a, b in zip(first, second)]
    common = 0
    for number in numbers:
        common = gcd(common, number)
    return tuple([number // common for number in numbers])


def parts_straight(sayings, names, simplices):
    """The list of (simplex, forms): parts of simplices with the forms that the sayings have on them."""
    steps = []
    for saying in sayings:
        steps.extend(steps_of(saying, names))
    found = []
    for simplex in simplices:
        found.extend(ends_within(Walk(steps, 0, (), simplex)))
    return found


def ends_within(walk):
    """The list of (simplex, forms) for the parts of the simplex that a walk has in the place of a path."""
    question = walk.question()
    if question is None:
        return [(walk.path, walk.waiting)]
    found = []
    for side, part in cut_by(walk.path, question):
        found.extend(ends_within(walk.taken(side, part)))
    return found


def total_of(fractions):
    """The sum of a list of fractions (above, below)."""
    above, below = 0, 1
    for first, second in fractions:
        above, below = lowest_terms(above * second + first * below, below * second)
    return above, below


def whole_of(simplex):
    """The product of the first numbers of all nodes."""
    whole = 1
    for node in simplex:
        whole *= node[0]
    return whole


def volume(simplex, places):
    """The measure of a simplex, a fraction."""
    rows = [[node[0]] + [node[place + 1] for place in places] for node in simplex]
    return abs(determinant(rows)), factorial(len(places)) * whole_of(simplex)


def worths_on(simplex, form):
    """The list of what a form is at the nodes, all times the product of their first numbers."""
    whole = whole_of(simplex)
    return [worth_at(form, node) * (whole // node[0]) for node in simplex]


def integral(simplex, places, form):
    """The integral of a form over a simplex: the measure times the mean of what it is at the nodes."""
    above, below = volume(simplex, places)
    return above * sum(worths_on(simplex, form)), below * whole_of(simplex) * (len(places) + 1)


def product_integral(simplex, places, first, second):
    """The integral of the product of two forms over a simplex."""
    above, below = volume(simplex, places)
    lefts = worths_on(simplex, first)
    rights = worths_on(simplex, second)
    size = len(places) + 1
    whole = whole_of(simplex)
    total = sum([a * b for a, b in zip(lefts, rights)]) + sum(lefts) * sum(rights)
    return above * total, below * whole * whole * size * (size + 1)
