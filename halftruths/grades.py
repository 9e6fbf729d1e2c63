"""Grades in rows of pieces: the kinds of the pieces are `sum`, `product` and `step`."""

from halftruths.errors import OutOfRange, WrongMark
from halftruths.kinds import is_whole
from halftruths.orderlevels import check_meant
from halftruths.products import grade_given
from halftruths.sayings import unknowns_of
from halftruths.values import check_names, compared, given_by, is_value

ONE = ("one",)
LEAST = ("in", 0, (0, 1))


def is_grade(value, pieces):
    """Whether a value is a grade in a row of so many pieces."""
    if not isinstance(value, tuple) or len(value) != 3:
        return value == ONE
    if value[0] != "in" or not is_whole(value[1]) or not 0 <= value[1] < pieces:
        return False
    return is_value(value[2]) and value[2] != (1, 1)


def compared_grades(first, second):
    """-1, 0 or 1 if the first grade is less than the second one, equal to it, or greater."""
    if first == ONE or second == ONE:
        return (first == ONE) - (second == ONE)
    if first[1] != second[1]:
        return -1 if first[1] < second[1] else 1
    return compared(first[2], second[2])


def chain_given(mark, kinds, first, second):
    """The grade of (mark, A, B) for two grades of A and B in the row of pieces of these kinds."""
    if mark == "plus":
        raise WrongMark(mark)
    sign = compared_grades(first, second)
    lesser, greater = (first, second) if sign < 0 else (second, first)
    if mark == "or":
        return greater
    if mark == "times":
        return within_piece(mark, kinds, first, second)
    if sign == 0 or (mark == "leads" and sign < 0):
        # Of (A leads B) and (B leads A) one is the top, so (A same B) is the other one.
        return lesser if mark == "and" else ONE
    return lesser if mark == "and" else within_piece("leads", kinds, greater, lesser)


def within_piece(mark, kinds, first, second):
    """The grade for the mark `times`, or for `leads` with the first grade above the second one."""
    lesser = first if compared_grades(first, second) < 0 else second
    if first == ONE or second == ONE or first[1] != second[1] or kinds[first[1]] == "step":
        return lesser
    given = given_by if kinds[first[1]] == "sum" else grade_given
    return ("in", first[1], given(mark, first[2], second[2]))


def check_grades(grades, kinds):
    """Raises OutOfRange for the first grade that lies in no piece of a row."""
    for grade in grades:
        if grade != ONE and not 0 <= grade[1] < len(kinds):
            raise OutOfRange(grade)


def chain_value(saying, kinds, names, grades):
    """The grade of a saying in the row of pieces of these kinds, at grades for the names."""
    check_meant((saying,))
    check_names(unknowns_of((saying,)), names)
    check_grades(grades, kinds)
    return grade_in(saying, kinds, {name: grade for name, grade in zip(names, grades)})


def grade_in(saying, kinds, grades):
    """The grade of a saying; the grades are those of the unknowns, by their names."""
    kind = saying[0]
    if kind == "unknown":
        return grades[saying[1]]
    if kind == "yes" or kind == "no":
        return ONE if kind == "yes" else LEAST
    first = grade_in(saying[1], kinds, grades)
    if kind == "not":
        return chain_given("leads", kinds, first, LEAST)
    return chain_given(kind, kinds, first, grade_in(saying[2], kinds, grades))
