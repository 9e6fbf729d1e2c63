"""Conditions: forms that should be above 0, or at least 0; values that keep them, or multiples that show none do."""

from halftruths.cells import emptiness, least_on
from halftruths.forms import constant, form_at, is_constant, one_less, summed, unit
from halftruths.kinds import is_whole
from halftruths.values import compared


def first_conditions(count, places):
    """The conditions that begin a placement for so many unknowns; those at the places lie in pieces."""
    found = [(constant(1, count), True)]
    for place in places:
        found.append((unit(place, count), False))
        found.append((one_less(unit(place, count)), True))
    return tuple(found)


def is_kept(condition, point):
    """Whether values keep a condition: the pair of a form and of whether it should be above 0."""
    above = form_at(condition[0], point)[0]
    return above > 0 or (above == 0 and not condition[1])


def with_gap(condition, places):
    """The form of a condition for the unknowns at the places and one more, the gap; strict ones are less by it."""
    form, strict = condition
    return (form[0],) + tuple([form[place + 1] for place in places]) + (-1 if strict else 0,)


def kept_by(conditions, places):
    """(point, None) with values for all unknowns that keep conditions; (None, multiples) if there are none.

    The conditions begin as first_conditions tells for the places. With the greatest gap by which the strict ones
    can all be above 0, either it is above 0, or the multiples that show that it is not are those looked for.
    """
    count = len(conditions[0][0]) - 1
    path = tuple([with_gap(condition, places) for condition in conditions])
    found = least_on(path, (0,) * (len(places) + 1) + (-1,))
    if found is None:
        return None, for_conditions(emptiness(path, len(places) + 1), path, len(conditions))
    if compared(found[0][-1], (0, 1)) > 0:
        values = {place: value for place, value in zip(places, found[0])}
        return tuple([values.get(place, (0, 1)) for place in range(count)]), None
    return None, for_conditions(found[2], path, len(conditions))


def for_conditions(multiples, path, size):
    """The multiples of conditions, made from those of a path and of the faces of its cell."""
    counts = list(multiples[:size])
    # Behind the first condition, 1 > 0, stand those of the faces; the last two faces are those of the gap.
    for place, number in enumerate(multiples[size:-2]):
        counts[place + 1] += number
    counts[0] -= sum([number * form[0] for number, form in zip(counts, path)])
    return tuple(counts)


def are_empty(conditions, multiples):
    """Whether multiples show that no values keep the conditions."""
    if not isinstance(multiples, tuple) or len(multiples) != len(conditions):
        return False
    if not all([is_whole(number) and number >= 0 for number in multiples]):
        return False
    total = summed([form for form, _ in conditions], multiples)
    if total[0] != 0 or not is_constant(total):
        return False
    return any([strict and number > 0 for (_, strict), number in zip(conditions, multiples)])
