"""Least values of forms where other forms are at least 0, by exchanging one form for another one."""

from math import gcd

from halftruths.forms import faces, form_at
from halftruths.values import fraction


class Tableau:
    """A form under forms that should be at least 0: those of a path, then the faces.

    As many of them as there are unknowns are chosen. They are independent, and all 0 at one place, the corner.
    The last form is a sum of multiples, from 0 on, of the chosen ones and of a number. So if no form is below 0
    at the corner, the last form is least there. All numbers are kept times the scale, which is above 0.

    Each column stands for a form: rows tells how the form is put together of the chosen ones, worths what it is
    at the corner. The last column is that of the form whose least value is looked for.
    """

    def __init__(self, path, form):
        count = len(form) - 1
        columns = path + faces(count) + (form,)
        signs = [1 if number >= 0 else -1 for number in form[1:]]
        # A face of each unknown is chosen so that the last form is a sum of multiples from 0 on.
        corner = tuple([(0, 1) if sign > 0 else (1, 1) for sign in signs])
        self.first_face = len(path)
        self.scale = 1
        self.chosen = [len(path) + 2 * place + (0 if sign > 0 else 1) for place, sign in enumerate(signs)]
        self.rows = [[sign * column[place + 1] for column in columns] for place, sign in enumerate(signs)]
        self.worths = [form_at(column, corner)[0] for column in columns]

    def settle(self):
        """Goes to a corner at which no form is below 0; returns None.

        If there is none, returns the column of a form that is below 0 wherever the chosen ones are at least 0.
        """
        while True:
            column = self.broken()
            if column is None:
                return None
            row = self.leaving(column)
            if row is None:
                return column
            self.exchange(row, column)

    def broken(self):
        """The first column of a form below 0 at the corner; None if there is none.

        That it is the first one, and that leaving prefers the first one too, keeps settling from going in a ring.
        """
        for column, worth in enumerate(self.worths[:-1]):
            if worth < 0:
                return column
        return None

    def leaving(self, column):
        """The row of the chosen form in whose place that of the column can be put; None if there is none."""
        best = None
        for place, row in enumerate(self.rows):
            if row[column] > 0 and (best is None or self.sooner(place, best, column)):
                best = place
        return best

    def sooner(self, place, other, column):
        """Whether one row gives out before another one when more and more of the column's form is taken."""
        left = self.rows[place][-1] * self.rows[other][column]
        right = self.rows[other][-1] * self.rows[place][column]
        return left < right or (left == right and self.chosen[place] < self.chosen[other])

    def exchange(self, place, column):
        """Puts the form of a column in the place of a chosen one."""
        key = self.rows[place]
        changed = []
        for at, row in enumerate(self.rows):
            changed.append(key if at == place else self.without(row, key, column))
        self.worths = self.without(self.worths, key, column)
        self.rows = changed
        self.scale = key[column]
        self.chosen[place] = column

    def without(self, row, key, column):
        """A row less that multiple of the key row that leaves 0 in the column, times the new scale."""
        scale = self.scale
        much = key[column]
        taken = row[column]
        # All entries are determinants of the forms' numbers, so the division leaves no rest.
        return [(number * much - taken * other) // scale for number, other in zip(row, key)]

    def corner(self):
        """The corner, a point if no face is below 0 there."""
        firsts = self.worths[self.first_face:-1:2]
        return tuple([fraction(worth, self.scale) for worth in firsts])

    def least_multiples(self):
        """(k, multiples) such that k times the last form, less the sum of the multiples, is a number."""
        counts = [0] * (len(self.worths) - 1)
        for column, row in zip(self.chosen, self.rows):
            counts[column] = row[-1]
        return shortened(self.scale, counts)

    def broken_multiples(self, column):
        """Multiples whose sum is a number below 0, for a column that settle has returned."""
        counts = [0] * (len(self.worths) - 1)
        for place, row in zip(self.chosen, self.rows):
            counts[place] = -row[column]
        counts[column] = self.scale
        return shortened(0, counts)[1]


def shortened(scale, counts):
    """A number and a tuple of numbers, all divided by their greatest common divisor."""
    common = scale
    for number in counts:
        common = gcd(common, number)
    return scale // common, tuple([number // common for number in counts])
