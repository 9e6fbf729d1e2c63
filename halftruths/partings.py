"""The least denominator of a point at which two sayings part."""

from halftruths.bounds import check_bound
from halftruths.errors import TooMany
from halftruths.likeness import are_alike
from halftruths.sayings import marks_in, occurrences, parts_of, unknowns_of
from halftruths.values import fraction, number_of

BOUND_FACTORS = (1, 1, 2, 4)
MOST_MARKS_OF_THREE = 5


def denominator_bound(first, second):
    """The bound of two sayings."""
    check_bound((first, second))
    names = unknowns_of((first, second))
    bound = BOUND_FACTORS[len(names)]
    for name in names:
        bound *= max(1, occurrences(first, name), occurrences(second, name))
    return bound


def least_parting(first, second):
    """The least parting of two sayings; None if they are alike."""
    check_bound((first, second))
    names = unknowns_of((first, second))
    if len(names) == 3 and marks_in(first) + marks_in(second) > MOST_MARKS_OF_THREE:
        raise TooMany("marks")
    if are_alike(first, second):
        return None
    sayings = (without_double_not(first), without_double_not(second))
    whole = 1
    while True:
        numbers = first_apart(sayings, names, {}, whole)
        if numbers is not None:
            return whole, tuple([fraction(numbers[name], whole) for name in names])
        whole += 1


def first_apart(sayings, names, numbers, whole):
    """The first numbers for all names, in parts of the whole, at which two sayings part, as a dict.

    Those of some names stand already in numbers, the rest are the names. None if there are none.
    """
    if not names:
        apart = number_of(sayings[0], numbers, whole) != number_of(sayings[1], numbers, whole)
        return numbers if apart else None
    for number in range(whole + 1):
        found = first_apart(sayings, names[1:], {**numbers, names[0]: number}, whole)
        if found is not None:
            return found
    return None


def without_double_not(saying):
    """A saying with the same values, in which no `not` stands in a `not`: many points are tried with it."""
    if saying[0] == "not" and saying[1][0] == "not":
        return without_double_not(saying[1][1])
    parts = parts_of(saying)
    return (saying[0],) + tuple([without_double_not(part) for part in parts]) if parts else saying
