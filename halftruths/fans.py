"""Fans: functions of two numbers that are one form on each sector between two neighbouring rays."""

from math import gcd

from halftruths.corners import ascending
from halftruths.kinds import are_whole


def are_rays(value, least, most):
    """Whether a value is a tuple of so many rays (p, q, v), p and q without a common divisor and not both 0."""
    if not isinstance(value, tuple) or not least <= len(value) <= most:
        return False
    return all([are_whole(ray, 3) and gcd(ray[0], ray[1]) == 1 for ray in value])


def turn(first, second):
    """Above 0 if it is less than half a turn from the first ray to the second one."""
    return first[0] * second[1] - first[1] * second[0]


def coefficients(first, second):
    """The integers (a, b) for the sector between two rays with a turn above 0; None if there are none."""
    below = turn(first, second)
    a = first[2] * second[1] - second[2] * first[1]
    b = first[0] * second[2] - second[0] * first[2]
    return (a // below, b // below) if a % below == 0 and b % below == 0 else None


def sectors_of(rays):
    """The list of the coefficients of all sectors between neighbouring rays."""
    return [coefficients(first, second) for first, second in zip(rays, rays[1:])]


def are_sectors(rays):
    """Whether all neighbouring rays have sectors between them."""
    for first, second in zip(rays, rays[1:]):
        if turn(first, second) <= 0 or coefficients(first, second) is None:
            return False
    return True


def inner_rays(forms):
    """The pairs (p, q) above 0, without a common divisor, at which some of the pairs (a, b) are 0, from (1, 0) on."""
    keys = {}
    for a, b in forms:
        if a * b < 0:
            p, q = abs(b), abs(a)
            common = gcd(p, q)
            # As a fraction of both together, the second number ascends with the angle.
            keys[((q // common, (p + q) // common),)] = True
    return [(key[0][1] - key[0][0], key[0][0]) for key in ascending(list(keys))]


def fan_cost(sectors):
    """The cost of a fan with these coefficients."""
    return len(sectors) * sum([abs(a) + abs(b) + 1 for a, b in sectors])
