"""Sayings as terms, and terms as sayings."""

from halftruths.errors import NameTaken, TooGreat, WrongMark
from halftruths.ladders import sizes_of, written_out
from halftruths.rows import Rows
from halftruths.sayings import MOST_DEPTH, MOST_WORDS, all_words, parts_of
from halftruths.terms import term_unknowns

NO_LENGTHS = ("no", "not", "plus")


def put_less(rows, first, second):
    """The number of a row for the first term less the second one."""
    return rows.put("sum", first, rows.put("minus", second))


def put_above_nil(rows, number):
    """The number of a row for the greater one of 0 and a term."""
    return rows.put("greater", rows.put("nil"), number)


def put_apart(rows, first, second):
    """The number of a row for the greater one of two terms, less the lesser one."""
    return rows.put("greater", put_less(rows, first, second), put_less(rows, second, first))


def term_of(saying):
    """The term of a saying."""
    rows = Rows()
    return written_out(rows.ladder(put_term(rows, saying)))


def put_term(rows, saying):
    """The number of a row for the term of a saying."""
    unit = rows.put("unit")
    kind = saying[0]
    if kind == "unknown":
        return rows.put("lesser", unit, put_above_nil(rows, rows.put("unknown", saying[1])))
    if kind == "yes" or kind == "no":
        return unit if kind == "yes" else rows.put("nil")
    parts = [put_term(rows, part) for part in parts_of(saying)]
    if kind == "not":
        return put_less(rows, unit, parts[0])
    return put_mark(rows, kind, parts[0], parts[1], unit)


def put_mark(rows, mark, first, second, unit):
    """The number of a row for the term of a mark, whose parts have the terms of two rows."""
    if mark == "plus":
        return rows.put("lesser", unit, rows.put("sum", first, second))
    if mark == "times":
        return put_above_nil(rows, rows.put("sum", first, put_less(rows, second, unit)))
    if mark == "leads":
        return rows.put("lesser", unit, rows.put("sum", put_less(rows, unit, first), second))
    if mark == "same":
        return put_less(rows, unit, put_apart(rows, first, second))
    return rows.put("lesser" if mark == "and" else "greater", first, second)


def length_term(saying):
    """The length term of a saying."""
    for word in all_words(saying):
        if word[0] in NO_LENGTHS:
            raise WrongMark(word[0])
    rows = Rows()
    return written_out(rows.ladder(put_length(rows, saying)))


def put_length(rows, saying):
    """The number of a row for the length term of a saying."""
    kind = saying[0]
    if kind == "unknown":
        return put_above_nil(rows, rows.put("unknown", saying[1]))
    if kind == "yes":
        return rows.put("nil")
    first, second = [put_length(rows, part) for part in parts_of(saying)]
    if kind == "times":
        return rows.put("sum", first, second)
    if kind == "leads":
        return put_above_nil(rows, put_less(rows, second, first))
    if kind == "same":
        return put_apart(rows, first, second)
    # The lesser grade has the greater length.
    return rows.put("greater" if kind == "and" else "lesser", first, second)


def halves(term, signs, name):
    """The pair of the halves of a term for a choice of signs of its unknowns; the name stands for the unit."""
    names = term_unknowns((term,))
    check_free(name, names)
    rows = Rows()
    first, second = put_halves(rows, term, {known: sign for known, sign in zip(names, signs)}, name)
    return written_both(rows, first, second)


def equation_sayings(first, second, signs, name):
    """The equation's sayings of two terms for a choice of signs of the unknowns of both."""
    names = term_unknowns((first, second))
    check_free(name, names)
    rows = Rows()
    known = {each: sign for each, sign in zip(names, signs)}
    left = put_halves(rows, first, known, name)
    right = put_halves(rows, second, known, name)
    return written_both(rows, rows.added(left[0], right[1]), rows.added(right[0], left[1]))


def check_free(name, names):
    """Raises NameTaken if a name is among the names."""
    if name in names:
        raise NameTaken(name)


def put_halves(rows, term, signs, name):
    """The pair of the numbers of rows for the halves of a term; the signs are those of the unknowns, by their names."""
    sign = term[0]
    nothing = rows.put("no")
    if sign == "unknown":
        number = rows.put("unknown", term[1])
        return (number, nothing) if signs[term[1]] > 0 else (nothing, number)
    if sign == "nil":
        return nothing, nothing
    if sign == "unit":
        return rows.put("unknown", name), nothing
    first, second = put_halves(rows, term[1], signs, name)
    if sign == "minus":
        return second, first
    third, fourth = put_halves(rows, term[2], signs, name)
    below = rows.added(second, fourth)
    if sign == "sum":
        return rows.added(first, third), below
    mark = "and" if sign == "lesser" else "or"
    return rows.put(mark, rows.added(first, fourth), rows.added(third, second)), below


def written_both(rows, first, second):
    """The pair of the sayings of two rows; raises TooGreat if one of them is no saying because of its size."""
    ladders = (rows.ladder(first), rows.ladder(second))
    sizes = [sizes_of(ladder) for ladder in ladders]
    if max([words for words, _ in sizes]) > MOST_WORDS:
        raise TooGreat("words")
    if max([depth for _, depth in sizes]) > MOST_DEPTH:
        raise TooGreat("depth")
    return written_out(ladders[0]), written_out(ladders[1])
