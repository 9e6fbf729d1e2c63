"""Whether a saying is 1 at every point, with certificates."""

from halftruths.bounds import check_bound
from halftruths.cells import least_on
from halftruths.certificates import VALID_GOAL, are_rows, plain_rows
from halftruths.forms import constant
from halftruths.sayings import unknowns_of
from halftruths.trees import tree_pieces


def is_valid(saying):
    """Whether a saying is valid."""
    return below_one(saying) is None


def validity(saying):
    """A plain validity of a saying; None if it is not valid."""
    check_bound((saying,))
    return plain_rows((saying,), VALID_GOAL)


def is_validity(saying, rows):
    """Whether the rows are a validity of a saying."""
    check_bound((saying,))
    return are_rows((saying,), VALID_GOAL, rows)


def below_one(saying):
    """A point at which a saying is below 1; None if it is valid."""
    check_bound((saying,))
    names = unknowns_of((saying,))
    one = constant(1, len(names))
    for path, forms in tree_pieces((saying,), names):
        # The cell has inner points, so another form is not 1 throughout, and its least value is below 1.
        if forms[0] != one:
            return least_on(path, forms[0])[0]
    return None
