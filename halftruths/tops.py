"""Tops: the greatest of rows of forms, each row the least of its forms."""

from halftruths.bounds import check_unknowns
from halftruths.errors import TooGreat, TooMany
from halftruths.forms import form_at
from halftruths.rows import Rows, put_all, put_cut
from halftruths.values import compared

MOST_ROWS = 5
MOST_FORMS = 5
GREATEST_NUMBER = 12
GREATEST_SUM = 6


def told_tops(tops, names):
    """A ladder with the values of the tops, for as many names."""
    check_unknowns(len(names))
    check_tops(tops)
    rows = Rows()
    found = []
    for row in tops:
        forms = [put_cut(rows, names, form) for form in row]
        found.append(put_all(rows, "and", forms) if forms else rows.put("yes"))
    return rows.ladder(put_all(rows, "or", found) if found else rows.put("no"))


def check_tops(tops):
    """Raises an error if there are too many rows or forms, or forms with too great numbers."""
    if len(tops) > MOST_ROWS:
        raise TooMany("rows")
    if max([len(row) for row in tops], default=0) > MOST_FORMS:
        raise TooMany("forms")
    for row in tops:
        for form in row:
            if abs(form[0]) > GREATEST_NUMBER or sum([abs(number) for number in form[1:]]) > GREATEST_SUM:
                raise TooGreat("coefficients")


def tops_at(tops, point):
    """The value of the tops at a point."""
    greatest = (0, 1)
    for row in tops:
        least = (1, 1)
        for form in row:
            found = form_at(form, point)
            if compared(found, least) < 0:
                least = found
        if compared(least, greatest) > 0:
            greatest = least
    return greatest
