"""Rows of certificates: how they are made while going along, and how they are judged.

A goal is a form whose places stand for the values of the sayings that are gone along. The rows show that it is
at least 0 at every point. A saying is valid if the goal (-1, 1) is: its value less 1.
"""

from halftruths.cells import are_multiples, least_on, sum_of
from halftruths.forms import constant, form_at, is_constant, less, opposite, scaled, summed
from halftruths.kinds import is_whole
from halftruths.questions import SIDES
from halftruths.sayings import unknowns_of
from halftruths.walks import decided, walk_along

VALID_GOAL = (-1, 1)


def goal_form(goal, forms):
    """The form of a goal where the sayings have these forms."""
    one = constant(1, len(forms[0]) - 1)
    return summed((one,) + forms, goal)


def rows_from(walk, goal):
    """The list of the plain rows for a goal from a walk on; None if the goal is below 0 at some point there."""
    rows = []
    while walk.question() is not None:
        found = decided(walk.path, walk.question())
        if found is None:
            return rows_of_split(rows, walk, goal)
        rows.append(("is",) + found)
        walk = walk.taken(found[0], walk.path)
    form = goal_form(goal, walk.waiting)
    point, k, multiples = least_on(walk.path, form)
    if form_at(form, point)[0] < 0:
        return None
    return rows + [("sum", k, multiples)]


def rows_of_split(rows, walk, goal):
    """As rows_from, for a walk at a question with two branches, behind rows that stand already."""
    found = rows + [("split",)]
    for branch in walk.branches():
        more = rows_from(branch, goal)
        if more is None:
            return None
        found = found + more
    return found


def plain_rows(sayings, goal):
    """The tuple of the plain rows for a goal of a tuple of sayings; None if it is below 0 at some point."""
    rows = rows_from(walk_along(sayings, unknowns_of(sayings)), goal)
    return None if rows is None else tuple(rows)


class Judge:
    """Uses rows one by one for a goal; count is that of the unknowns."""

    def __init__(self, rows, goal, count):
        self.rows = rows
        self.goal = goal
        self.count = count
        self.used = 0

    def next_row(self):
        """The next row, which is used with this; the empty one if there is none or if it is no tuple."""
        if self.used == len(self.rows):
            return ()
        row = self.rows[self.used]
        self.used += 1
        return row if isinstance(row, tuple) else ()

    def ends(self, walk):
        """Whether the next rows are right from a walk on, until its branch has ended."""
        question = walk.question()
        row = self.next_row()
        if self.is_empty_row(row, walk.path):
            return True
        if question is None:
            return self.is_sum_row(row, walk.path, goal_form(self.goal, walk.waiting))
        if row == ("split",):
            first, second = walk.branches()
            return self.ends(first) and self.ends(second)
        if not self.is_side_row(row, walk.path, question):
            return False
        return self.ends(walk.taken(row[1], walk.path))

    def is_empty_row(self, row, path):
        """Whether a row shows that the cell of a path is empty."""
        if len(row) != 2 or row[0] != "empty" or not are_multiples(row[1], path, self.count):
            return False
        total = sum_of(path, self.count, row[1])
        return is_constant(total) and total[0] < 0

    def is_sum_row(self, row, path, form):
        """Whether a row shows that a form is at least 0 in the cell of a path."""
        return len(row) == 3 and row[0] == "sum" and self.is_shown(path, form, row[1], row[2])

    def is_side_row(self, row, path, question):
        """Whether a row shows on which side a question is in the cell of a path."""
        if len(row) != 4 or row[0] != "is" or row[1] not in SIDES:
            return False
        form = question if row[1] == "least" else opposite(question)
        return self.is_shown(path, form, row[2], row[3])

    def is_shown(self, path, form, k, multiples):
        """Whether k times a form, less the sum of the multiples, is a number from 0 on."""
        if not is_whole(k) or k < 1 or not are_multiples(multiples, path, self.count):
            return False
        rest = less(scaled(form, k), sum_of(path, self.count, multiples))
        return is_constant(rest) and rest[0] >= 0


def are_rows(sayings, goal, value):
    """Whether a value is a tuple of rows that show a goal of a tuple of sayings."""
    if not isinstance(value, tuple):
        return False
    names = unknowns_of(sayings)
    judge = Judge(value, goal, len(names))
    return judge.ends(walk_along(sayings, names)) and judge.used == len(value)
