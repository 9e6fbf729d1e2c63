"""The bounds of the functions that go along sayings."""

from halftruths.errors import TooMany
from halftruths.sayings import marks_in, unknowns_of

MOST_UNKNOWNS = 3
MOST_MARKS = (12, 12, 9, 7)


def check_unknowns(count):
    """Raises TooMany for more unknowns than are allowed."""
    if count > MOST_UNKNOWNS:
        raise TooMany("unknowns")


def check_bound_for(count, sayings):
    """Raises TooMany if the sayings have too much for so many unknowns."""
    check_unknowns(count)
    if sum([marks_in(saying) for saying in sayings]) > MOST_MARKS[count]:
        raise TooMany("marks")


def check_bound(sayings):
    """Raises TooMany if the sayings have too many unknowns or marks together."""
    check_bound_for(len(unknowns_of(sayings)), sayings)
