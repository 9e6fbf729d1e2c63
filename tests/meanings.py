"""Values by order and grades by products reckoned anew, and sayings without `plus` to try."""

import itertools
from fractions import Fraction

from tests.helpers import NO, YES, neg, parts_first

MEANT = ("times", "leads", "and", "or", "same")


def random_meant(source, marks, names, nots=0.25):
    """Some saying without `plus`, with exactly so many marks."""
    if marks:
        first = source.randrange(marks)
        saying = (source.choice(MEANT), random_meant(source, first, names, nots),
                  random_meant(source, marks - 1 - first, names, nots))
    elif names and source.random() < 0.93:
        saying = ("unknown", source.choice(names))
    else:
        saying = source.choice((YES, NO))
    return neg(saying) if source.random() < nots else saying


def with_meant_marks(count, leaves):
    """A saying with so many marks, none of them `plus`, in which all the leaves stand in their turn."""
    saying = leaves[0]
    for k in range(count):
        saying = (("and", "or")[k % 2], saying, leaves[(k + 1) % len(leaves)])
    return saying


def plus_in_each_place():
    x, y = ("unknown", "x"), ("unknown", "y")
    bad = ("plus", x, y)
    return [bad, neg(bad), ("and", bad, x), ("or", x, bad), ("leads", neg(("same", x, bad)), y), ("plus", x, bad)]


def has_plus(saying):
    return any(word[0] == "plus" for word in parts_first(saying))


def order_worth(saying, names, place):
    kind = saying[0]
    if kind == "unknown":
        return Fraction(place[names.index(saying[1])])
    if kind in ("yes", "no"):
        return Fraction(kind == "yes")
    a = order_worth(saying[1], names, place)
    if kind == "not":
        return Fraction(a == 0)
    b = order_worth(saying[2], names, place)
    if kind == "leads":
        return Fraction(1) if a <= b else b
    if kind == "same":
        return Fraction(1) if a == b else min(a, b)
    return max(a, b) if kind == "or" else min(a, b)


def order_places(count, steps):
    """All points of the chain of so many steps."""
    return list(itertools.product([Fraction(k, steps) for k in range(steps + 1)], repeat=count))


def product_worth(saying, names, place):
    kind = saying[0]
    if kind == "unknown":
        return Fraction(place[names.index(saying[1])])
    if kind in ("yes", "no"):
        return Fraction(kind == "yes")
    a = product_worth(saying[1], names, place)
    if kind == "not":
        return Fraction(a == 0)
    b = product_worth(saying[2], names, place)
    return {
        "times": lambda: a * b,
        "and": lambda: min(a, b),
        "or": lambda: max(a, b),
        "leads": lambda: Fraction(1) if a <= b else b / a,
        "same": lambda: Fraction(1) if a == b else min(a, b) / max(a, b),
    }[kind]()


def place_of(lengths):
    return [Fraction(0) if length is None else Fraction(1, 2 ** length) for length in lengths]


def some_lengths(count, most):
    return list(itertools.product([None] + list(range(most + 1)), repeat=count))
