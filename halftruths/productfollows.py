"""What follows by products from what, by how many uses, with certificates."""

from halftruths.casewalks import length_at, no_lengths, walk_in_case
from halftruths.certificates import are_rows_from, rows_from
from halftruths.conewalks import least_in_cone
from halftruths.forms import summed
from halftruths.kinds import is_whole
from halftruths.products import cases_of, check_products, length_of
from halftruths.sayings import unknowns_of
from halftruths.walks import ends_of


def product_use(first, second):
    """The least use of the first saying for the second one; None if the second one does not follow by products."""
    return use_or_gap(first, second)[0]


def product_gap(first, second):
    """Lengths at which the first saying has the grade 1 and the second one has not; None if this one follows."""
    return use_or_gap(first, second)[1]


def use_or_gap(first, second):
    """The pair of the least use and of None if the second saying follows by products, otherwise of None and a gap."""
    check_products((first, second))
    names = unknowns_of((first, second))
    uses = 0
    for case in cases_of(len(names)):
        for walk in ends_of(walk_in_case((first, second), names, case)):
            uses, gap = raised_use(walk, uses)
            if gap is not None:
                return None, gap
    return uses, None


def raised_use(walk, uses):
    """(the least use from a number on that is enough at the end of a walk, None); (None, a gap) if none is."""
    left, right = walk.waiting
    if left is None:
        # One use is enough whatever the second saying is here; it is needed unless this has the grade 1 throughout.
        return (uses if right is not None and not any(right) else max(uses, 1)), None
    if right is None:
        return None, no_lengths(walk.case)
    while True:
        point = least_in_cone(walk.path, summed(walk.waiting, uses_goal(uses)), walk.places)[0]
        lengths = walk.lengths_along(point)
        much, wanted = length_at(left, lengths), length_at(right, lengths)
        if uses * much >= wanted:
            return uses, None
        if much == 0:
            return None, lengths
        # So many are needed here, rounded up; more may be needed elsewhere in the cone.
        uses = -(-wanted // much)


def uses_goal(uses):
    """The goal, in the length forms of two sayings, that so many uses are enough."""
    return (uses, -1)


def case_goal(first, second, names, case, uses):
    """(walk, goal) that show in a case that so many uses are enough; None if nothing has to be shown there."""
    if uses == 0:
        return walk_in_case((second,), names, case), (-1,)
    lengths = no_lengths(case)
    if length_of(first, {name: length for name, length in zip(names, lengths)}) is None:
        return None
    return walk_in_case((first, second), names, case), uses_goal(uses)


def product_derivation(first, second):
    """A derivation by products with the least use and plain rows; None if the second saying does not follow."""
    uses = product_use(first, second)
    if uses is None:
        return None
    names = unknowns_of((first, second))
    found = []
    for case in cases_of(len(names)):
        shown = case_goal(first, second, names, case, uses)
        found.append(() if shown is None else tuple(rows_from(shown[0], shown[1])))
    return uses, tuple(found)


def is_product_derivation(first, second, value):
    """Whether a value is a derivation by products of the second saying from the first one."""
    check_products((first, second))
    if not isinstance(value, tuple) or len(value) != 2:
        return False
    uses, entries = value
    names = unknowns_of((first, second))
    cases = cases_of(len(names))
    if not is_whole(uses) or uses < 0 or not isinstance(entries, tuple) or len(entries) != len(cases):
        return False
    for case, entry in zip(cases, entries):
        shown = case_goal(first, second, names, case, uses)
        if shown is None:
            if entry != ():
                return False
        elif not are_rows_from(shown[0], shown[1], len(names), entry):
            return False
    return True
