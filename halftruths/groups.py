"""Whether one term is never above another one, with certificates."""

from halftruths.certificates import are_rows_from, rows_from
from halftruths.conewalks import least_in_cone, numbers_along
from halftruths.forms import less
from halftruths.terms import check_terms, term_unknowns
from halftruths.termwalks import sign_choices, walk_with_signs
from halftruths.walks import ends_of

# The form of the second term, less that of the first one.
NEVER_ABOVE_GOAL = (-1, 1)


def is_never_above(first, second):
    """Whether the first term is never above the second one."""
    return above_numbers(first, second) is None


def are_terms_alike(first, second):
    """Whether two terms are alike."""
    return is_never_above(first, second) and is_never_above(second, first)


def walks_of(first, second):
    """The list of the walks along two terms, one for each choice of signs of their unknowns, with the choices."""
    names = term_unknowns((first, second))
    return [(signs, walk_with_signs((first, second), names, signs)) for signs in sign_choices(len(names))]


def never_above(first, second):
    """A certificate, with plain rows, that the first term is never above the second one; None if it is not so."""
    check_terms((first, second))
    found = []
    for _, walk in walks_of(first, second):
        rows = rows_from(walk, NEVER_ABOVE_GOAL)
        if rows is None:
            return None
        found.append(tuple(rows))
    return tuple(found)


def shows_never_above(first, second, value):
    """Whether a value is a certificate that the first term is never above the second one."""
    check_terms((first, second))
    walks = walks_of(first, second)
    if not isinstance(value, tuple) or len(value) != len(walks):
        return False
    count = len(term_unknowns((first, second)))
    return all([are_rows_from(walk, NEVER_ABOVE_GOAL, count, rows) for (_, walk), rows in zip(walks, value)])


def above_numbers(first, second):
    """(numbers, unit) for which the first term is greater than the second one; None if it is never above it."""
    check_terms((first, second))
    for signs, start in walks_of(first, second):
        for walk in ends_of(start):
            goal = less(walk.waiting[1], walk.waiting[0])
            sizes = numbers_along(least_in_cone(walk.path, goal, walk.places)[0])
            if sum([number * size for number, size in zip(goal, sizes)]) < 0:
                return tuple([sign * size for sign, size in zip(signs, sizes[1:])]), sizes[0]
    return None
