"""Grades in rows of pieces, carried over from points, orders, lengths and other rows of pieces."""

from halftruths.chaintrees import check_chain, grades_with
from halftruths.errors import TooGreat
from halftruths.grades import LEAST, ONE, chain_value, check_grades
from halftruths.orders import order_type_of
from halftruths.sayings import unknowns_of
from halftruths.values import fraction


def from_point(point):
    """The grades for a point: each value below 1 lies in piece 0."""
    return tuple([ONE if value == (1, 1) else ("in", 0, value) for value in point])


def from_order(point):
    """The grades for a point of which only the order counts: the values between 0 and 1 are bottoms of pieces."""
    return tuple([ONE if level > len(point) else ("in", level, (0, 1)) for level in order_type_of(point)])


def from_lengths(lengths, scale):
    """The grades for lengths, those above 0 as values in piece 1 that lie by so many parts of the scale below 1."""
    for length in lengths:
        if length is not None and length > scale:
            raise TooGreat("length")
    return tuple([from_length(length, scale) for length in lengths])


def from_length(length, scale):
    """The grade for one length."""
    if length is None:
        return LEAST
    return ONE if length == 0 else ("in", 1, fraction(scale - length, scale))


def closed_up(grades):
    """The grades with the pieces above 0 in which some of them lie numbered anew, 1, 2, .."""
    pieces = sorted(list({grade[1]: True for grade in grades if grade != ONE and grade[1] > 0}))
    numbers = {piece: place + 1 for place, piece in enumerate(pieces)}
    return tuple([grade if grade == ONE else ("in", numbers.get(grade[1], 0), grade[2]) for grade in grades])


def into_sums(saying, kinds, grades):
    """Grades in one more pieces `sum` than unknowns, at which a saying is at the top exactly if it is at the grades.

    What is at the top, or not, in some row of pieces is so in such a row, too; it is looked for there.
    """
    check_chain(saying)
    check_grades(grades, kinds)
    return grades_with(saying, chain_value(saying, kinds, unknowns_of((saying,)), grades) == ONE)
