"""Grades by products, and lengths: how often a half is taken times a half."""

from halftruths.bounds import check_bound
from halftruths.errors import TooGreat
from halftruths.orderlevels import check_meant
from halftruths.sayings import unknowns_of
from halftruths.values import check_names, compared, fraction

GREATEST_LENGTH = 1000


def check_products(sayings):
    """Raises an error if a saying has no grade by products, or if they have too much together."""
    check_meant(sayings)
    check_bound(sayings)


def product_grade(saying, names, point):
    """The grade by products of a saying at a point for the names."""
    check_products((saying,))
    check_names(unknowns_of((saying,)), names)
    return grade_of(saying, {name: value for name, value in zip(names, point)})


def grade_of(saying, values):
    """The grade of a saying; the values are those of the unknowns, by their names."""
    kind = saying[0]
    if kind == "unknown":
        return values[saying[1]]
    if kind == "yes" or kind == "no":
        return (1, 1) if kind == "yes" else (0, 1)
    first = grade_of(saying[1], values)
    if kind == "not":
        return (1, 1) if first[0] == 0 else (0, 1)
    return grade_given(kind, first, grade_of(saying[2], values))


def grade_given(mark, first, second):
    """The grade of (mark, A, B) for two grades of A and B."""
    if mark == "times":
        return fraction(first[0] * second[0], first[1] * second[1])
    sign = compared(first, second)
    if mark == "and":
        return first if sign < 0 else second
    if mark == "or":
        return second if sign < 0 else first
    if sign == 0 or (sign < 0 and mark == "leads"):
        return (1, 1)
    lesser, greater = (first, second) if sign < 0 else (second, first)
    return fraction(lesser[0] * greater[1], lesser[1] * greater[0])


def product_length(saying, names, lengths):
    """The length of a saying at lengths for the names."""
    check_products((saying,))
    check_names(unknowns_of((saying,)), names)
    return length_of(saying, {name: length for name, length in zip(names, lengths)})


def length_of(saying, lengths):
    """The length of a saying; the lengths are those of the unknowns, by their names."""
    kind = saying[0]
    if kind == "unknown":
        return lengths[saying[1]]
    if kind == "yes" or kind == "no":
        return 0 if kind == "yes" else None
    first = length_of(saying[1], lengths)
    if kind == "not":
        return 0 if first is None else None
    return length_given(kind, first, length_of(saying[2], lengths))


def length_given(mark, first, second):
    """The length of (mark, A, B) for two lengths of A and B."""
    if first is None and (mark == "leads" or (mark == "same" and second is None)):
        return 0
    if mark == "or" and (first is None or second is None):
        return second if first is None else first
    if first is None or second is None:
        return None
    if mark == "times":
        return first + second
    if mark == "and":
        return max(first, second)
    if mark == "or":
        return min(first, second)
    return max(0, second - first) if mark == "leads" else abs(first - second)


def product_point(lengths):
    """The point of some lengths."""
    if max([length for length in lengths if length is not None], default=0) > GREATEST_LENGTH:
        raise TooGreat("length")
    return tuple([(0, 1) if length is None else (1, 1 << length) for length in lengths])


def cases_of(count):
    """The tuple of the cases for so many unknowns."""
    found = [()]
    for _ in range(count):
        found = [case + (entry,) for case in found for entry in (0, 1)]
    return tuple(found)
