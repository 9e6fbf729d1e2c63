"""What a saying gives by order, at many points at once, and what is looked at before that."""

from halftruths.errors import TooMany, WrongMark
from halftruths.sayings import all_words, unknowns_of

MOST_UNKNOWNS = 4


def check_meant(sayings):
    """Raises WrongMark if `plus`, which has no meaning here, stands in one of some sayings."""
    for saying in sayings:
        if any([word[0] == "plus" for word in all_words(saying)]):
            raise WrongMark("plus")


def check_order(sayings):
    """Raises an error if some sayings have no meaning by order, or too many unknowns together."""
    check_meant(sayings)
    if len(unknowns_of(sayings)) > MOST_UNKNOWNS:
        raise TooMany("unknowns")


def order_numbers(saying, columns, top, size):
    """The list of the numbers of a saying at so many points; columns has those of the unknowns, by their names.

    Only the order of the numbers counts: 0 stands for the value 0, and the top for 1.
    """
    kind = saying[0]
    if kind == "unknown":
        return columns[saying[1]]
    if kind == "yes" or kind == "no":
        return [top if kind == "yes" else 0] * size
    first = order_numbers(saying[1], columns, top, size)
    if kind == "not":
        return [top if number == 0 else 0 for number in first]
    return given_numbers(kind, first, order_numbers(saying[2], columns, top, size), top)


def given_numbers(mark, firsts, seconds, top):
    """The list of the numbers of (mark, A, B) for those of A and of B."""
    if mark == "or":
        return [a if a > b else b for a, b in zip(firsts, seconds)]
    if mark == "leads":
        return [top if a <= b else b for a, b in zip(firsts, seconds)]
    if mark == "same":
        return [top if a == b else min(a, b) for a, b in zip(firsts, seconds)]
    return [a if a < b else b for a, b in zip(firsts, seconds)]


def levels_at(saying, names, kinds):
    """The list of the levels of a saying at some order types for the names."""
    columns = {name: [kind[place] for kind in kinds] for place, name in enumerate(names)}
    return order_numbers(saying, columns, len(names) + 1, len(kinds))
