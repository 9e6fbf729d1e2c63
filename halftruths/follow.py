"""Whether one saying follows from another one, how often it must be used, and certificates."""

from halftruths.certificates import are_rows, plain_rows
from halftruths.kinds import is_whole
from halftruths.sayings import unknowns_of
from halftruths.values import is_point, number_of, numbers_for
from halftruths.web import corners_of, web_in_bound


def shortfalls(premise, conclusion, names, point):
    """How much is left of 1 to the premise and to the conclusion at a point, in parts of its denominator."""
    whole, numbers = numbers_for(names, point)
    return whole - number_of(premise, numbers, whole), whole - number_of(conclusion, numbers, whole)


def corner_shortfalls(premise, conclusion):
    """The list of the corners of the common web, each with the two shortfalls there."""
    names = unknowns_of((premise, conclusion))
    return [(point, shortfalls(premise, conclusion, names, point)) for point in corners_of((premise, conclusion))]


def against_among(corners):
    """The first of some corners with shortfalls that speaks against following; None if there is none."""
    for point, (left, right) in corners:
        if left == 0 and right > 0:
            return point
    return None


def most_used(corners):
    """The pair of the least uses, if no corner speaks against them, and of the first corner that asks for them."""
    uses = 0
    where = None
    for point, (left, right) in corners:
        # Rounded up; where nothing is left to the premise, nothing is left to the conclusion.
        here = 0 if left == 0 else -(-right // left)
        if here > uses:
            uses = here
            where = point
    return uses, where


def least_uses(premise, conclusion):
    """The least uses of the premise for the conclusion; None if it does not follow."""
    corners = corner_shortfalls(premise, conclusion)
    return None if against_among(corners) is not None else most_used(corners)[0]


def first_against(premise, conclusion):
    """The first corner at which the premise is 1 and the conclusion is below 1; None if there is none."""
    return against_among(corner_shortfalls(premise, conclusion))


def uses_goal(uses):
    """The goal, in the values a and b, that so many uses are enough: uses (1 - a) - (1 - b)."""
    return (uses - 1, -uses, 1)


def follow_certificate(premise, conclusion):
    """A certificate for the premise and the conclusion, with plain rows if it has any."""
    corners = corner_shortfalls(premise, conclusion)
    against = against_among(corners)
    if against is not None:
        return ("against", against)
    uses, where = most_used(corners)
    return ("follows", uses, plain_rows((premise, conclusion), uses_goal(uses)), where)


def is_follow_certificate(premise, conclusion, value):
    """Whether a value is a certificate for the premise and the conclusion."""
    web_in_bound((premise, conclusion))
    if not isinstance(value, tuple):
        return False
    if len(value) == 2:
        return value[0] == "against" and _is_against(premise, conclusion, value[1])
    if len(value) != 4 or value[0] != "follows" or not is_whole(value[1]) or value[1] < 0:
        return False
    uses, rows, where = value[1:]
    if not _needs_uses(premise, conclusion, uses, where):
        return False
    return are_rows((premise, conclusion), uses_goal(uses), rows)


def _is_against(premise, conclusion, point):
    names = unknowns_of((premise, conclusion))
    if not is_point(point, len(names)):
        return False
    left, right = shortfalls(premise, conclusion, names, point)
    return left == 0 and right > 0


def _needs_uses(premise, conclusion, uses, where):
    if uses == 0:
        return where is None
    names = unknowns_of((premise, conclusion))
    if not is_point(where, len(names)):
        return False
    left, right = shortfalls(premise, conclusion, names, where)
    return right > (uses - 1) * left
