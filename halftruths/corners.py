"""Points at which as many independent forms are 0 as there are unknowns."""

from itertools import combinations

from halftruths.forms import faces
from halftruths.values import fraction


def determinant(rows):
    """The determinant of a square of integers, a tuple or list of rows."""
    if not rows:
        return 1
    total = 0
    sign = 1
    for place, number in enumerate(rows[0]):
        if number != 0:
            total += sign * number * determinant([row[:place] + row[place + 1:] for row in rows[1:]])
        sign = -sign
    return total


def common_zero(forms):
    """(numbers, below): the forms, as many as unknowns, are all 0 where these are the numbers / below.

    below is above 0. None if the forms are not independent.
    """
    below = determinant([form[1:] for form in forms])
    if below == 0:
        return None
    sign = 1 if below > 0 else -1
    numbers = []
    for place in range(len(forms)):
        rows = [form[1:place + 1] + (-form[0],) + form[place + 2:] for form in forms]
        numbers.append(sign * determinant(rows))
    return numbers, sign * below


def corner_points(forms, count):
    """The corners that a tuple of forms and the faces make, for so many unknowns, in ascending order."""
    found = {}
    together = list(forms + faces(count))
    for chosen in combinations(together, count):
        zero = common_zero(chosen)
        if zero is not None and all([0 <= number <= zero[1] for number in zero[0]]):
            found[tuple([fraction(number, zero[1]) for number in zero[0]])] = True
    return ascending(list(found))


def ascending(points):
    """The tuple of some points in ascending order."""
    greatest = max([value[1] for point in points for value in point], default=1)
    # Different values of such denominators are at least 1 / greatest ** 2 apart, so the keys differ, too.
    fine = greatest * greatest
    keyed = [(tuple([above * fine // below for above, below in point]), point) for point in points]
    return tuple([point for _, point in sorted(keyed)])
