"""Cells: where all forms of a path are at least 0."""

from halftruths.forms import constant, faces, form_at, opposite, summed
from halftruths.kinds import is_whole
from halftruths.tableaus import Tableau


def least_on(path, form):
    """(point, k, multiples) for the least value of a form on the cell of a path; None if the cell is empty."""
    table = Tableau(path, form)
    if table.settle() is not None:
        return None
    k, multiples = table.least_multiples()
    return table.corner(), k, multiples


def emptiness(path, count):
    """Multiples whose sum is a number below 0, for a path with so many unknowns; None if the cell is not empty."""
    table = Tableau(path, constant(0, count))
    column = table.settle()
    return None if column is None else table.broken_multiples(column)


def falls_below(path, form):
    """Whether a form is below 0 at some point of the cell of a path."""
    least = least_on(path, form)
    return least is not None and form_at(form, least[0])[0] < 0


def changes_sign(path, form):
    """Whether a form is above 0 at some point of the cell and below 0 at another one."""
    return falls_below(path, form) and falls_below(path, opposite(form))


def are_multiples(value, path, count):
    """Whether a value is a tuple of multiples for a path with so many unknowns."""
    if not isinstance(value, tuple) or len(value) != len(path) + 2 * count:
        return False
    return all([is_whole(number) and number >= 0 for number in value])


def sum_of(path, count, multiples):
    """The sum of the multiples for a path with so many unknowns."""
    return summed((constant(0, count),) + path + faces(count), (0,) + multiples)
