"""What is valid and alike by products, with certificates."""

from halftruths.casewalks import length_at, no_lengths, walk_in_case
from halftruths.certificates import are_rows_from, rows_from
from halftruths.conewalks import least_in_cone
from halftruths.forms import less, opposite
from halftruths.products import cases_of, check_products
from halftruths.sayings import unknowns_of
from halftruths.walks import ends_of

# The form of the saying at the end, taken below 0.
VALID_GOAL = (-1,)


def product_pieces(saying, case):
    """The tuple of the pieces of a saying in a case of its unknowns."""
    check_products((saying,))
    ends = ends_of(walk_in_case((saying,), unknowns_of((saying,)), case))
    return tuple([(walk.path, walk.waiting[0]) for walk in ends if walk.waiting[0] is not None])


def is_product_valid(saying):
    """Whether a saying is valid by products."""
    check_products((saying,))
    names = unknowns_of((saying,))
    for case in cases_of(len(names)):
        for walk in ends_of(walk_in_case((saying,), names, case)):
            # The cone of a piece has inner points, so a form that is not 0 is above 0 at some of them.
            if walk.waiting[0] is None or any(walk.waiting[0]):
                return False
    return True


def product_validity(saying):
    """A validity by products of a saying, with plain rows; None if it is not valid by products."""
    check_products((saying,))
    names = unknowns_of((saying,))
    found = []
    for case in cases_of(len(names)):
        rows = rows_from(walk_in_case((saying,), names, case), VALID_GOAL)
        if rows is None:
            return None
        found.append(tuple(rows))
    return tuple(found)


def is_product_validity(saying, value):
    """Whether a value is a validity by products of a saying."""
    check_products((saying,))
    names = unknowns_of((saying,))
    cases = cases_of(len(names))
    if not isinstance(value, tuple) or len(value) != len(cases):
        return False
    walks = [walk_in_case((saying,), names, case) for case in cases]
    return all([are_rows_from(walk, VALID_GOAL, len(names), rows) for walk, rows in zip(walks, value)])


def are_product_alike(first, second):
    """Whether two sayings are alike by products."""
    return product_parting(first, second) is None


def product_parting(first, second):
    """Lengths at which two sayings have different grades by products; None if they are alike by products."""
    check_products((first, second))
    names = unknowns_of((first, second))
    for case in cases_of(len(names)):
        for walk in ends_of(walk_in_case((first, second), names, case)):
            left, right = walk.waiting
            if left is None or right is None:
                if left != right:
                    return no_lengths(case)
            elif left != right:
                # The cone of a piece has inner points, so different forms differ at some of them.
                return lengths_with(walk, less(left, right))
    return None


def lengths_with(walk, form):
    """Lengths in the cone of a walk in a case at which a form is not 0; it is not 0 throughout the cone."""
    for each in (form, opposite(form)):
        lengths = walk.lengths_along(least_in_cone(walk.path, each, walk.places)[0])
        if length_at(form, lengths) != 0:
            return lengths
    return None
