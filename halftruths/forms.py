"""Forms: a number and one number more for each unknown."""

from halftruths.kinds import are_whole
from halftruths.values import denominator_of, lowest_terms


def is_form(value, count):
    """Whether a value is a form for so many unknowns."""
    return are_whole(value, count + 1)


def form_at(form, point):
    """The fraction that a form is at a point, in lowest terms."""
    whole = denominator_of(point)
    total = form[0] * whole
    for number, (above, below) in zip(form[1:], point):
        total += number * above * (whole // below)
    return lowest_terms(total, whole)


def constant(number, count):
    """The form for so many unknowns that is a number everywhere."""
    return (number,) + (0,) * count


def is_constant(form):
    """Whether a form is the same number everywhere."""
    return not any(form[1:])


def unit(place, count):
    """The form for so many unknowns that is the unknown at a place, counted from 0."""
    return (0,) * (place + 1) + (1,) + (0,) * (count - place - 1)


def added(first, second):
    """The sum of two forms."""
    return tuple([a + b for a, b in zip(first, second)])


def less(first, second):
    """The first form less the second one."""
    return tuple([a - b for a, b in zip(first, second)])


def opposite(form):
    """The form with all its signs changed."""
    return tuple([-number for number in form])


def scaled(form, number):
    """The form times a number."""
    return tuple([number * entry for entry in form])


def one_less(form):
    """The form 1 - form."""
    return (1 - form[0],) + opposite(form[1:])


def faces(count):
    """The faces for so many unknowns."""
    found = []
    for place in range(count):
        found.append(unit(place, count))
        found.append(one_less(unit(place, count)))
    return tuple(found)


def summed(forms, multiples):
    """The sum of the multiples of some forms, at least one."""
    total = [0] * len(forms[0])
    for form, multiple in zip(forms, multiples):
        if multiple != 0:
            total = [entry + multiple * number for entry, number in zip(total, form)]
    return tuple(total)
