"""Regions: points told by cells, those of a saying, and the saying of a region."""

from halftruths.bounds import check_bound
from halftruths.cells import least_on
from halftruths.errors import TooGreat, TooMany
from halftruths.forms import constant, form_at, less, opposite
from halftruths.ladders import written_out
from halftruths.rows import Rows, put_all, put_cut
from halftruths.sayings import unknowns_of
from halftruths.trees import tree_pieces

MOST_PATHS = 3
MOST_FORMS = 3
GREATEST_NUMBER = 4
GREATEST_SUM = 4


def in_region(region, point):
    """Whether a point is one of a region."""
    return any([all([form_at(form, point)[0] >= 0 for form in path]) for path in region])


def yes_region(saying):
    """A region whose points are just those at which a saying is 1."""
    check_bound((saying,))
    return tuple(yes_paths(saying))


def yes_paths(saying):
    """The list of paths, none of them with an empty cell, that have all points at which a saying is 1."""
    names = unknowns_of((saying,))
    one = constant(1, len(names))
    found = []
    for path, forms in tree_pieces((saying,), names):
        if forms[0] == one:
            found.append(path)
        elif form_at(forms[0], least_on(path, opposite(forms[0]))[0]) == (1, 1):
            found.append(path + (less(forms[0], one),))
    return found


def saying_of_region(region, names):
    """A saying, its unknowns among the names, that is 1 at just the points of a region."""
    if len(region) > MOST_PATHS:
        raise TooMany("paths")
    for path in region:
        check_path(path)
    return saying_of_paths(region, names)


def check_path(path):
    """Raises an error if a path has too many forms or one with too great numbers."""
    if len(path) > MOST_FORMS:
        raise TooMany("forms")
    for form in path:
        if abs(form[0]) > GREATEST_NUMBER or sum([abs(number) for number in form[1:]]) > GREATEST_SUM:
            raise TooGreat("form")


def saying_of_paths(paths, names):
    """As saying_of_region, for paths of any numbers; raises TooGreat if the saying would be too great."""
    rows = Rows()
    cells = [put_cell(rows, names, path) for path in paths]
    whole = put_all(rows, "or", cells) if cells else rows.put("no")
    return written_out(rows.ladder(whole))


def put_cell(rows, names, path):
    """The number of a row that is 1 at just the points of the cell of a path."""
    if not path:
        return rows.put("yes")
    # A form is at least 0 just where one more than it, cut to the values from 0 to 1, is 1.
    return put_all(rows, "and", [put_cut(rows, names, (form[0] + 1,) + form[1:]) for form in path])
