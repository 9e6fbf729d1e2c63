"""Rows of certificates: how they are made while going along, and how they are judged.

A goal is told by numbers for the values of the sayings that are gone along. The rows show that it is at least 0
everywhere. A saying is valid if the goal (-1, 1) is: its value less 1.
"""

from halftruths.forms import opposite
from halftruths.questions import SIDES
from halftruths.sayings import unknowns_of
from halftruths.walks import walk_along

VALID_GOAL = (-1, 1)


def rows_from(walk, goal):
    """The list of the plain rows for a goal from a walk on; None if the goal is below 0 at some point there."""
    rows = []
    while walk.question() is not None:
        found = walk.decided()
        if found is None:
            return rows_of_split(rows, walk, goal)
        rows.append(("is",) + found)
        walk = walk.taken(found[0], walk.path)
    form = walk.goal_form(goal)
    shown = None if form is None else walk.shown(form)
    return None if shown is None else rows + [("sum",) + shown]


def rows_of_split(rows, walk, goal):
    """As rows_from, for a walk at a question with two branches, behind rows that stand already."""
    found = rows + [("split",)]
    for branch in walk.branches():
        more = rows_from(branch, goal)
        if more is None:
            return None
        found = found + more
    return found


def plain_rows(sayings, goal):
    """The tuple of the plain rows for a goal of a tuple of sayings; None if it is below 0 at some point."""
    rows = rows_from(walk_along(sayings, unknowns_of(sayings)), goal)
    return None if rows is None else tuple(rows)


class Judge:
    """Uses rows one by one for a goal; count is that of the unknowns."""

    def __init__(self, rows, goal, count):
        self.rows = rows
        self.goal = goal
        self.count = count
        self.used = 0

    def next_row(self):
        """The next row, which is used with this; the empty one if there is none or if it is no tuple."""
        if self.used == len(self.rows):
            return ()
        row = self.rows[self.used]
        self.used += 1
        return row if isinstance(row, tuple) else ()

    def ends(self, walk):
        """Whether the next rows are right from a walk on, until its branch has ended."""
        question = walk.question()
        row = self.next_row()
        if len(row) == 2 and row[0] == "empty":
            return walk.is_shown_empty(row[1], self.count)
        if question is None:
            form = walk.goal_form(self.goal)
            return form is not None and len(row) == 3 and row[0] == "sum" and walk.is_shown(form, row[1], row[2])
        if row == ("split",):
            first, second = walk.branches()
            return self.ends(first) and self.ends(second)
        if len(row) != 4 or row[0] != "is" or row[1] not in SIDES:
            return False
        if not walk.is_shown(question if row[1] == "least" else opposite(question), row[2], row[3]):
            return False
        return self.ends(walk.taken(row[1], walk.path))


def are_rows_from(walk, goal, count, value):
    """Whether a value is a tuple of rows, for so many unknowns, that show a goal from a walk on to its end."""
    if not isinstance(value, tuple):
        return False
    judge = Judge(value, goal, count)
    return judge.ends(walk) and judge.used == len(value)


def are_rows(sayings, goal, value):
    """Whether a value is a tuple of rows that show a goal of a tuple of sayings."""
    names = unknowns_of(sayings)
    return are_rows_from(walk_along(sayings, names), goal, len(names), value)
