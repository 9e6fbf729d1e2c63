"""Ladders: sayings as rows that stand on earlier rows."""

from halftruths.errors import TooGreat
from halftruths.kinds import is_whole
from halftruths.sayings import MARKS, MOST_DEPTH, MOST_WORDS, is_name, parts_of
from halftruths.values import check_names, fraction, number_given, numbers_for

MOST_ROWS = 2000


def is_ladder(value):
    """Whether a value is a ladder."""
    if not isinstance(value, tuple) or not 1 <= len(value) <= MOST_ROWS:
        return False
    return all([is_row(row, place) for place, row in enumerate(value)])


def is_row(value, place):
    """Whether a value can be the row of a ladder that has this number."""
    if not isinstance(value, tuple):
        return False
    if len(value) == 1:
        return value[0] == "yes" or value[0] == "no"
    if len(value) == 2 and value[0] == "unknown":
        return is_name(value[1])
    if not (len(value) == 2 and value[0] == "not") and not (len(value) == 3 and value[0] in MARKS):
        return False
    return all([is_whole(number) and 0 <= number < place for number in value[1:]])


def ladder_of(saying):
    """The ladder of a saying."""
    numbers = {}
    _number_in(saying, numbers)
    return tuple(list(numbers))


def _number_in(saying, numbers):
    """The number of the row of a saying, which is put to the rows with its parts if it is not there yet."""
    parts = parts_of(saying)
    row = saying
    if parts:
        row = (saying[0],) + tuple([_number_in(part, numbers) for part in parts])
    if row not in numbers:
        numbers[row] = len(numbers)
    return numbers[row]


def needed_rows(ladder):
    """The ascending list of the numbers of the rows that the last one depends on, itself among them."""
    needed = {len(ladder) - 1: True}
    for number in reversed(range(len(ladder))):
        if number in needed:
            for part in parts_of(ladder[number]):
                needed[part] = True
    return sorted(list(needed))


def sizes_of(ladder):
    """The pair of the number of words and of the depth of the saying of the last row; the words at most 1,001."""
    words = []
    depths = []
    for row in ladder:
        parts = parts_of(row)
        count = 1 + sum([words[part] for part in parts])
        # Without this, the number of words could double with each row.
        words.append(min(count, MOST_WORDS + 1))
        depths.append(max([depths[part] + 1 for part in parts], default=0))
    return words[-1], depths[-1]


def written_out(ladder):
    """The saying of the last row of a ladder."""
    words, depth = sizes_of(ladder)
    if words > MOST_WORDS:
        raise TooGreat("words")
    if depth > MOST_DEPTH:
        raise TooGreat("depth")
    sayings = {}
    for number in needed_rows(ladder):
        row = ladder[number]
        parts = parts_of(row)
        sayings[number] = (row[0],) + tuple([sayings[part] for part in parts]) if parts else row
    return sayings[len(ladder) - 1]


def ladder_unknowns(ladder):
    """The tuple of the unknowns in all rows of a ladder, in their order."""
    found = {row[1]: True for row in ladder if row[0] == "unknown"}
    return tuple(list(found))


def ladder_at(ladder, names, point):
    """The value of a ladder at a point for the names."""
    check_names(ladder_unknowns(ladder), names)
    whole, numbers = numbers_for(names, point)
    values = []
    for row in ladder:
        values.append(_row_number(row, values, numbers, whole))
    return fraction(values[-1], whole)


def _row_number(row, values, numbers, whole):
    if row[0] == "unknown":
        return numbers[row[1]]
    if row[0] == "yes":
        return whole
    if row[0] == "no":
        return 0
    if row[0] == "not":
        return whole - values[row[1]]
    return number_given(row[0], values[row[1]], values[row[2]], whole)
