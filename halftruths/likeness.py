"""Whether two sayings have the same value at every point, with certificates."""

from halftruths.bounds import check_bound
from halftruths.cells import least_on
from halftruths.certificates import VALID_GOAL, are_rows, plain_rows
from halftruths.forms import form_at, less, opposite
from halftruths.sayings import unknowns_of
from halftruths.trees import tree_pieces
from halftruths.values import is_point, value_at


def are_alike(first, second):
    """Whether two sayings are alike."""
    return parting(first, second) is None


def likeness(first, second):
    """A plain likeness of two sayings; None if they are not alike."""
    check_bound((first, second))
    return plain_rows((("same", first, second),), VALID_GOAL)


def is_likeness(first, second, rows):
    """Whether the rows are a likeness of two sayings."""
    check_bound((first, second))
    return are_rows((("same", first, second),), VALID_GOAL, rows)


def parting(first, second):
    """A point at which two sayings part; None if they are alike."""
    check_bound((first, second))
    for path, forms in tree_pieces((first, second), unknowns_of((first, second))):
        # The cell has inner points, so different forms part in it.
        if forms[0] != forms[1]:
            return _parting_on(path, less(forms[0], forms[1]))
    return None


def _parting_on(path, difference):
    point = least_on(path, difference)[0]
    if form_at(difference, point)[0] != 0:
        return point
    return least_on(path, opposite(difference))[0]


def is_parting(first, second, point):
    """Whether a value is a point for the unknowns of two sayings at which they part."""
    names = unknowns_of((first, second))
    if not is_point(point, len(names)):
        return False
    return value_at(first, names, point) != value_at(second, names, point)
