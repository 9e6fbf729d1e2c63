"""Means and shares reckoned anew, and sayings with webs as great as is allowed, or just greater."""

import itertools
import math
from fractions import Fraction

from tests.helpers import (NO, X, Y, Z, form_worth, names_of, neg, pair, tree_of, vertices, worth)
from tests.webs import corners_anew

WEB_OF_20 = ("leads", neg(Y), neg(("or", ("plus", ("or", neg(("same", X, neg(X))), X),
                                          neg(("same", neg(X), ("or", Y, X)))), ("same", neg(Y), ("leads", X, NO)))))
WEB_OF_21 = ("plus", Y, neg(("same", ("same", ("plus", X, X), neg(X)),
                             ("or", X, ("and", ("and", neg(Y), X), Y)))))
WEB_OF_8 = ("and", ("same", ("and", X, neg(Z)), ("plus", ("plus", Y, Z), ("or", NO, X))), ("times", Z, Y))
WEB_OF_9 = ("plus", ("plus", ("and", ("times", neg(Z), ("times", X, neg(Z))), ("same", Y, neg(Z))), neg(Z)),
            ("plus", Y, X))
# Two sayings each, with a common web of 21 and of 9 members, each alone with fewer.
TWO_WITH_21 = (("leads", X, ("same", X, neg(("same", Y, ("same", X, neg(X)))))),
               ("or", ("same", ("same", Y, neg(Y)), ("times", Y, ("plus", X, X))), X))
TWO_WITH_9 = (("and", Y, ("same", ("times", neg(Z), Y), Z)),
              ("and", ("same", Z, neg(X)), ("plus", ("times", neg(Z), neg(Y)), Y)))
KEPT_AND_PASSED = ((WEB_OF_20, 20, WEB_OF_21), (WEB_OF_8, 8, WEB_OF_9))


def common_denominator(sayings):
    found = 1
    for point in corners_anew(sayings):
        for value in point:
            found = math.lcm(found, value[1])
    return found


def grid_total(function, count, parts):
    """The sum of a function over all points whose coordinates are so many parts of 1."""
    steps = [Fraction(k, parts) for k in range(parts + 1)]
    return sum((function(place) for place in itertools.product(steps, repeat=count)), Fraction(0))


def leading(values):
    """The leading coefficient of the polynomial of degree less than the number of values that has them at 1, 2, .."""
    degree = len(values) - 1
    rows = list(values)
    while len(rows) > 1:
        rows = [second - first for first, second in zip(rows, rows[1:])]
    return rows[0] / math.factorial(degree)


def mean_by_grids(function, count, parts, degree=1):
    """The mean of a function that has this degree on each cell, if all corners lie on the grid of so many parts."""
    size = count + (0 if degree == 1 else degree)
    values = []
    for m in range(1, size + 2):
        total = grid_total(function, count, m * parts)
        values.append(total if degree == 1 else total * (m * parts) ** degree)
    above = leading(values)
    return above / Fraction(parts) ** (count if degree == 1 else size)


def area(places):
    """The area of the hull of some places of the plane that are its corners."""
    if len(places) < 3:
        return Fraction(0)
    middle = [sum(place[k] for place in places) / Fraction(len(places)) for k in range(2)]

    def key(place):
        a, b = place[0] - middle[0], place[1] - middle[1]
        size = abs(a) + abs(b)
        # A number that ascends with the angle.
        return (a / size if b < 0 else 2 - a / size) if b else (Fraction(1) if a > 0 else Fraction(3))
    ring = sorted(places, key=key)
    return abs(sum(p[0] * q[1] - p[1] * q[0] for p, q in zip(ring, ring[1:] + ring[:1]))) / 2


def share_in_plane(saying, value):
    """The share of a saying of two unknowns from a value on."""
    total = Fraction(0)
    for (path, forms), _ in tree_of((saying,), names_of(saying)):
        above = tuple(value[1] * number - (value[0] if k == 0 else 0) for k, number in enumerate(forms[0]))
        total += area(list(set(vertices(path + (above,), 2))))
    return total


def share_on_line(saying, value):
    """The share of a saying of one unknown from a value on."""
    total = Fraction(0)
    for (path, forms), _ in tree_of((saying,), names_of(saying)):
        above = tuple(value[1] * number - (value[0] if k == 0 else 0) for k, number in enumerate(forms[0]))
        places = [place[0] for place in vertices(path + (above,), 1)]
        if places:
            total += max(places) - min(places)
    return total


def simpson(function, low, high):
    """The integral of a polynomial of degree at most 3."""
    return (high - low) * (function(low) + 4 * function((low + high) / 2) + function(high)) / 6


def inner_integral(function, low, high):
    """As simpson, without the values at both ends."""
    step = (high - low) / 4
    return (high - low) * (2 * function(low + step) - function(low + 2 * step) + 2 * function(low + 3 * step)) / 3


def worth_function(saying, names=None):
    names = names_of(saying) if names is None else names
    return lambda place: worth(saying, names, place)


def mean_of_forms(saying):
    """The mean of a saying of two unknowns: of its forms, over triangles of its cells."""
    total = Fraction(0)
    for (path, forms), _ in tree_of((saying,), names_of(saying)):
        places = sorted(set(vertices(path, 2)))
        first = places[0]
        ring = places[1:]
        # Triangles from one corner: the others in the order in which they lie around it.
        for second, third in itertools.combinations(ring, 2):
            if all(side(first, second, third, other) for other in ring):
                part = area([first, second, third])
                total += part * sum(form_worth(forms[0], place) for place in (first, second, third)) / 3
    return total


def side(first, second, third, other):
    """Whether another place does not lie, seen from the first one, between the second and the third one."""
    def turn(p, q):
        return (p[0] - first[0]) * (q[1] - first[1]) - (p[1] - first[1]) * (q[0] - first[0])
    whole = turn(second, third)
    return other in (second, third) or not (whole * turn(second, other) > 0 and whole * turn(other, third) > 0)


def told(number):
    return pair(Fraction(number))
