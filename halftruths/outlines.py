"""Outlines: functions of one unknown, told by pairs of a place and of the value there."""

from halftruths.breaks import breaks_of
from halftruths.errors import NotAFunction, TooGreat, TooMany, WrongSize
from halftruths.sayings import marks_in, unknowns_of
from halftruths.toldback import mesh_with, told_over
from halftruths.values import compared, is_value

MOST_PAIRS = 40
GREATEST_DENOMINATOR = 12
MOST_MARKS = 12


def is_outline(value):
    """Whether a value is an outline."""
    if not isinstance(value, tuple) or len(value) < 2:
        return False
    return all([is_pair(pair) for pair in value]) and wrong_place(value) is None


def is_pair(value):
    """Whether a value is a pair of values."""
    return isinstance(value, tuple) and len(value) == 2 and is_value(value[0]) and is_value(value[1])


def wrong_place(outline):
    """The least place of a pair that is wrong; None if there is none. There are at least two pairs."""
    if outline[0][0] != (0, 1):
        return 0
    for place in range(1, len(outline)):
        if line_through(outline[place - 1], outline[place]) is None:
            return place
    return None if outline[-1][0] == (1, 1) else len(outline) - 1


def line_through(start, end):
    """The form of integers on the straight line through two pairs; None if there is none, or if x does not ascend."""
    (x, y), (u, w) = start, end
    if compared(x, u) >= 0:
        return None
    slope = exact((w[0] * y[1] - y[0] * w[1]) * x[1] * u[1], (u[0] * x[1] - x[0] * u[1]) * y[1] * w[1])
    if slope is None:
        return None
    number = exact(y[0] * x[1] - slope * x[0] * y[1], y[1] * x[1])
    return None if number is None else (number, slope)


def exact(above, below):
    """The integer above / below; None if it is none."""
    return above // below if above % below == 0 else None


def told_outline(outline, name):
    """A ladder in the name with the values of an outline."""
    check_outline(outline)
    mesh = mesh_with([(place,) for place, _ in outline], (name,))
    heights = []
    for above, below in mesh.nodes():
        number, slope = line_over(outline, above, below)
        heights.append(number * below + slope * above)
    return told_over(mesh, heights)


def check_outline(outline):
    """Raises an error if these pairs are no outline, or one that is too great."""
    if len(outline) > MOST_PAIRS:
        raise TooMany("pairs")
    if len(outline) < 2:
        raise WrongSize(len(outline))
    place = wrong_place(outline)
    if place is not None:
        raise NotAFunction(place)
    if max([x[1] for x, _ in outline]) > GREATEST_DENOMINATOR:
        raise TooGreat("denominator")


def line_over(outline, above, below):
    """The form of an outline on a part that has the place above / below."""
    for start, end in zip(outline, outline[1:]):
        if compared((above, below), end[0]) <= 0:
            return line_through(start, end)
    return None


def outline_of(saying):
    """The plain outline of a saying."""
    if len(unknowns_of((saying,))) > 1:
        raise TooMany("unknowns")
    if marks_in(saying) > MOST_MARKS:
        raise TooMany("marks")
    return breaks_of(saying)
