"""Means of sayings over all points, and of two sayings together."""

from halftruths.errors import UnknownName
from halftruths.forms import less, opposite
from halftruths.sayings import unknowns_of
from halftruths.simplices import cut_by, first_simplices, integral, parts_straight, product_integral, total_of
from halftruths.web import web_within

# By the number of unknowns; None for any number.
MOST_QUESTIONS = (None, None, 20, 8)


def measured_web(sayings):
    """The web of a tuple of sayings; raises TooMany if they have too much to be measured."""
    return web_within(sayings, MOST_QUESTIONS)


def cube_parts(sayings):
    """The pair of the places of all unknowns of a tuple of sayings and of the parts of the cube with their forms."""
    measured_web(sayings)
    names = unknowns_of(sayings)
    places = list(range(len(names)))
    base = (1,) + (0,) * len(names)
    return places, parts_straight(sayings, names, first_simplices(base, places))


def mean_of(saying):
    """The mean of a saying."""
    places, parts = cube_parts((saying,))
    return total_of([integral(simplex, places, forms[0]) for simplex, forms in parts])


def product_mean(first, second):
    """The mean of the product of the values of two sayings."""
    places, parts = cube_parts((first, second))
    return total_of([product_integral(simplex, places, forms[0], forms[1]) for simplex, forms in parts])


def distance_of(first, second):
    """The mean of the greater value of two sayings less the lesser one."""
    places, parts = cube_parts((first, second))
    found = []
    for simplex, forms in parts:
        difference = less(forms[0], forms[1])
        for side, part in cut_by(simplex, difference):
            found.append(integral(part, places, difference if side == "least" else opposite(difference)))
    return total_of(found)


def mean_with(saying, name, value):
    """The mean of a saying over its other unknowns, where the name has the value everywhere."""
    names = unknowns_of((saying,))
    if name not in names:
        raise UnknownName(name)
    measured_web((saying,))
    fixed = names.index(name)
    places = [place for place in range(len(names)) if place != fixed]
    base = (value[1],) + tuple([value[0] if place == fixed else 0 for place in range(len(names))])
    parts = parts_straight((saying,), names, first_simplices(base, places))
    return total_of([integral(simplex, places, forms[0]) for simplex, forms in parts])
