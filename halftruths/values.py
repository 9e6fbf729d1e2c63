"""Values and points, and what a saying gives at a point."""

from math import gcd, lcm

from halftruths.errors import OutOfRange, UnknownName
from halftruths.kinds import are_whole
from halftruths.sayings import unknowns_of


def is_value(value):
    """Whether a value is one from 0 to 1, in lowest terms."""
    if not are_whole(value, 2):
        return False
    above, below = value
    return 0 <= above <= below and below >= 1 and gcd(above, below) == 1


def is_point(value, count):
    """Whether a value is a point for so many unknowns."""
    return isinstance(value, tuple) and len(value) == count and all([is_value(part) for part in value])


def lowest_terms(above, below):
    """The fraction above / below without a common divisor; the second number is not 0, then above 0."""
    common = gcd(above, below)
    if below < 0:
        common = -common
    return (above // common, below // common)


def fraction(above, below):
    """The value above / below of two integers, the second one not 0."""
    value = lowest_terms(above, below)
    if not 0 <= value[0] <= value[1]:
        raise OutOfRange((above, below))
    return value


def compared(first, second):
    """-1, 0 or 1 if the first value is less than the second one, equal to it, or greater."""
    left = first[0] * second[1]
    right = second[0] * first[1]
    if left == right:
        return 0
    return -1 if left < right else 1


def denominator_of(point):
    """The denominator of a point."""
    common = 1
    for value in point:
        common = lcm(common, value[1])
    return common


def number_given(mark, first, second, whole):
    """What a mark gives for two parts, all of them counted in parts of the whole."""
    if mark == "plus":
        return min(whole, first + second)
    if mark == "times":
        return max(0, first + second - whole)
    if mark == "leads":
        return min(whole, whole - first + second)
    if mark == "and":
        return min(first, second)
    if mark == "or":
        return max(first, second)
    return whole - abs(first - second)


def number_of(saying, numbers, whole):
    """The value of a saying in parts of the whole; the numbers are those of the unknowns, by their names."""
    kind = saying[0]
    if kind == "unknown":
        return numbers[saying[1]]
    if kind == "yes":
        return whole
    if kind == "no":
        return 0
    first = number_of(saying[1], numbers, whole)
    if kind == "not":
        return whole - first
    return number_given(kind, first, number_of(saying[2], numbers, whole), whole)


def numbers_for(names, point):
    """The pair of the denominator of a point and of the numbers of the names, in parts of it."""
    whole = denominator_of(point)
    return whole, {name: above * (whole // below) for name, (above, below) in zip(names, point)}


def check_names(needed, names):
    """Raises UnknownName for the first needed name that is not among the names."""
    for name in needed:
        if name not in names:
            raise UnknownName(name)


def value_at(saying, names, point):
    """The value of a saying at a point for the names."""
    check_names(unknowns_of((saying,)), names)
    whole, numbers = numbers_for(names, point)
    return fraction(number_of(saying, numbers, whole), whole)


def given_by(mark, first, second):
    """The value of (mark, A, B) for two values of A and B."""
    whole = denominator_of((first, second))
    left = first[0] * (whole // first[1])
    right = second[0] * (whole // second[1])
    return fraction(number_given(mark, left, right, whole), whole)
