"""Terms: what is put together of unknowns and a unit in a group with an order."""

from halftruths.errors import TooMany
from halftruths.sayings import all_words, is_built, is_name, unknowns_of
from halftruths.values import check_names

ASKING = ("lesser", "greater")
SIGNS = ("sum", "lesser", "greater")
MOST_UNKNOWNS = 3
MOST_SIGNS = 24
MOST_SIGNS_WITH_THREE = 12


def is_term(value):
    """Whether a value is a term."""
    return is_built(value, is_term_word)


def is_term_word(value):
    """Whether a value is built like one word of a term, whatever its parts are."""
    if not isinstance(value, tuple):
        return False
    if len(value) == 1:
        return value[0] == "nil" or value[0] == "unit"
    if len(value) == 2:
        return value[0] == "minus" or (value[0] == "unknown" and is_name(value[1]))
    return len(value) == 3 and value[0] in SIGNS


def term_unknowns(terms):
    """The tuple of the unknowns of a tuple of terms, in the order in which they first occur."""
    return unknowns_of(terms)


def has_unit(term):
    """Whether `unit` stands in a term."""
    return any([word[0] == "unit" for word in all_words(term)])


def check_terms(terms):
    """Raises TooMany if the terms have too many unknowns or signs together."""
    # The unit counts as one unknown more.
    count = len(unknowns_of(terms)) + (1 if any([has_unit(term) for term in terms]) else 0)
    if count > MOST_UNKNOWNS:
        raise TooMany("unknowns")
    signs = len([word for term in terms for word in all_words(term) if word[0] in ASKING])
    if signs > (MOST_SIGNS_WITH_THREE if count == MOST_UNKNOWNS else MOST_SIGNS):
        raise TooMany("signs")


def term_row(term, names, rows, unit):
    """The row of a term for rows of the names and a unit."""
    check_names(unknowns_of((term,)), names)
    return row_of(term, {name: row for name, row in zip(names, rows)}, unit)


def row_of(term, rows, unit):
    """The row of a term; the rows are those of the unknowns, by their names."""
    sign = term[0]
    if sign == "unknown":
        return rows[term[1]]
    if sign == "nil":
        return (0,) * len(unit)
    if sign == "unit":
        return unit
    first = row_of(term[1], rows, unit)
    if sign == "minus":
        return tuple([-number for number in first])
    second = row_of(term[2], rows, unit)
    if sign == "lesser":
        return min(first, second)
    if sign == "greater":
        return max(first, second)
    return tuple([a + b for a, b in zip(first, second)])
