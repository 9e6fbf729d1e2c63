"""The breaks of a saying with at most one unknown."""

from halftruths.errors import TooMany
from halftruths.sayings import occurrences, unknowns_of
from halftruths.values import lowest_terms, value_at

MOST_OCCURRENCES = 40


def breaks_of(saying):
    """The tuple of the breaks of a saying."""
    names = unknowns_of((saying,))
    if len(names) > 1:
        raise TooMany("unknowns")
    most = 0 if not names else occurrences(saying, names[0])
    if most > MOST_OCCURRENCES:
        raise TooMany("occurrences")
    pairs = [(place, value_at(saying, names, (place,) * len(names))) for place in places_up_to(most)]
    return tuple([pair for at, pair in enumerate(pairs) if is_break(pairs, at)])


def places_up_to(most):
    """The values with a denominator up to some integer, in ascending order; 0 and 1 at least.

    A slope changes only where two forms meet whose numbers of the unknown are not further apart than it occurs,
    so at one of these places if that is how often it occurs.
    """
    found = [(0, 1), (1, max(1, most))]
    while found[-1] != (1, 1):
        (a, b), (c, d) = found[-2:]
        # Of neighbours in this order, the middle one is its neighbours' sum, but for a common divisor.
        times = (most + b) // d
        found.append((times * c - a, times * d - b))
    return found


def is_break(pairs, at):
    """Whether the slope changes at one of the pairs, or nothing is known on one side of it."""
    if at == 0 or at == len(pairs) - 1:
        return True
    return slope(pairs[at - 1], pairs[at]) != slope(pairs[at], pairs[at + 1])


def slope(start, end):
    """The slope between two pairs of a place and the value there, in lowest terms."""
    (place, value), (later, other) = start, end
    rise = (other[0] * value[1] - value[0] * other[1]) * place[1] * later[1]
    return lowest_terms(rise, (later[0] * place[1] - place[0] * later[1]) * value[1] * other[1])
