"""Rows of a ladder, put together one by one."""


class Rows:
    """The rows of a ladder that is being put together; equal rows stand there once."""

    def __init__(self):
        self.rows = []
        self.places = {}

    def put(self, *row):
        """The number of a row, which is put behind the others if it is not there yet."""
        if row not in self.places:
            self.places[row] = len(self.rows)
            self.rows.append(row)
        return self.places[row]

    def stands_for(self, number, word):
        """Whether the row with this number is just `yes` or just `no`."""
        return self.rows[number] == (word,)

    def added(self, first, second):
        """The number of a row for (A plus B)."""
        if self.stands_for(first, "no"):
            return second
        if self.stands_for(second, "no"):
            return first
        return self.put("plus", first, second)

    def without(self, first, second):
        """The number of a row for A less B, or for 0 where B is above A."""
        return self.put("times", first, self.put("not", second))

    def ladder(self, number):
        """The ladder that stands for the row with this number."""
        return tuple(self.rows[:number + 1])


def put_all(rows, mark, numbers):
    """The number of a row that puts some rows, at least one, together by one mark."""
    whole = numbers[0]
    for number in numbers[1:]:
        whole = rows.put(mark, whole, number)
    return whole


def put_cut(rows, names, form):
    """The number of a row for a form that is cut to the values from 0 to 1."""
    number = form[0]
    literals = []
    for name, times in zip(names, form[1:]):
        literal = rows.put("unknown", name)
        if times < 0:
            # -x is (1 - x) - 1.
            literal = rows.put("not", literal)
            number += times
        literals = literals + [literal] * abs(times)
    return _put_sum(rows, literals, number)


def _put_sum(rows, literals, number):
    if number >= 1:
        return rows.put("yes")
    if number + len(literals) <= 0:
        return rows.put("no")
    # With x for the last one and h for the form without it: cut to 0 and 1, h + x is
    # ((h cut) plus x) times (h + 1 cut). Both of these stand for 0 or 1 far away from where h + x is cut.
    low = rows.added(_put_sum(rows, literals[:-1], number), literals[-1])
    high = _put_sum(rows, literals[:-1], number + 1)
    return low if rows.stands_for(high, "yes") else rows.put("times", low, high)


def put_times(rows, number, times):
    """The number of a row for so many times another one, a number from 1 on, as far as that is at most 1."""
    if times == 1:
        return number
    half = put_times(rows, number, times // 2)
    twice = rows.put("plus", half, half)
    return rows.put("plus", twice, number) if times & 1 else twice
