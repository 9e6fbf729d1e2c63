"""Tables by order: the levels of sayings at all order types, and how many there are."""

from math import comb

from halftruths.errors import NotAFunction, OutOfRange, TooMany, WrongSize
from halftruths.orderlevels import check_order, levels_at
from halftruths.orders import blocks_of, order_types, raised_type, types_below
from halftruths.ordersayings import saying_with
from halftruths.sayings import unknowns_of

MOST_NAMES = 3


def order_table(saying):
    """The table of a saying for its unknowns."""
    check_order((saying,))
    names = unknowns_of((saying,))
    return tuple(levels_at(saying, names, order_types(len(names))))


def is_order_table(count, table):
    """Whether a tuple of integers is a table of so many unknowns."""
    kinds = order_types(count)
    if len(table) != len(kinds):
        return False
    entries = {kind: entry for kind, entry in zip(kinds, table)}
    return all([is_entry(entries[kind], kind) and fits(entries, kind) for kind in kinds])


def is_entry(entry, kind):
    """Whether an integer can be an entry for an order type."""
    return 0 <= entry <= blocks_of(kind) or entry == len(kind) + 1


def fits(entries, kind):
    """Whether the entry for an order type fits that for its raised type."""
    top = blocks_of(kind)
    if top == 0:
        return True
    raised = entries[raised_type(kind)]
    if raised == len(kind) + 1:
        return entries[kind] == top or entries[kind] == raised
    return entries[kind] == raised


def check_table(count, table):
    """The entries of a table of so many unknowns by their order types; raises an error if it is none."""
    kinds = order_types(count)
    if len(table) != len(kinds):
        raise WrongSize(len(table))
    entries = {kind: entry for kind, entry in zip(kinds, table)}
    for kind in kinds:
        if not is_entry(entries[kind], kind):
            raise OutOfRange(entries[kind])
    for kind in kinds:
        if not fits(entries, kind):
            raise NotAFunction(kind)
    return entries


def order_told(names, table):
    """A saying without `plus` that has this table for the names."""
    if len(names) > MOST_NAMES:
        raise TooMany("unknowns")
    entries = check_table(len(names), table)
    return saying_with(names, {kind: True for kind in entries if entries[kind] == len(names) + 1})


def choices_below(ones, blocks):
    """In how many ways a table can go on from an order type, with its own entry, if it is 1 at the raised type.

    So many unknowns are 1 at the type, and the types that are raised to it have at most so many blocks more.
    """
    many = 1
    if blocks > 0:
        for fewer in range(1, ones + 1):
            # So many unknowns can leave the highest level together.
            for _ in range(comb(ones, fewer)):
                many *= choices_below(ones - fewer, blocks - 1)
    return many + 1


def count_with(count, blocks):
    """The number of tables of so many unknowns, for the order types with at most so many blocks."""
    many = 1
    for ones in range(count + 1):
        for _ in range(comb(count, ones)):
            many *= choices_below(ones, blocks)
    return many


def order_count(count):
    """The number of tables of so many unknowns."""
    return count_with(count, count)


def order_count_in(count, steps):
    """The number of sayings of so many unknowns that differ in the chain of so many steps."""
    return count_with(count, min(count, steps - 1))


def ones_in(kind):
    """How many unknowns are 1 in an order type."""
    return len([level for level in kind if level > len(kind)])


def order_numbered(count, number):
    """The table of so many unknowns that has this number."""
    if not 0 <= number < order_count(count):
        raise OutOfRange(number)
    below = types_below(count)
    entries = {}
    left = number
    for kind in below:
        if blocks_of(kind) == 0:
            many = choices_below(ones_in(kind), count)
            fill_in(entries, kind, left % many, below)
            left //= many
    return tuple([entries[kind] for kind in below])


def fill_in(entries, kind, number, below):
    """Puts the entries for a type and those below it; the number is that of the way in which the table goes on."""
    if number == 0:
        fill_with(entries, kind, blocks_of(kind), below)
        return
    entries[kind] = len(kind) + 1
    left = number - 1
    for each in below[kind]:
        many = choices_below(ones_in(each), len(kind))
        fill_in(entries, each, left % many, below)
        left //= many


def fill_with(entries, kind, entry, below):
    """Puts one entry for a type and for all those below it."""
    entries[kind] = entry
    for each in below[kind]:
        fill_with(entries, each, entry, below)


def order_number(count, table):
    """The number of a table of so many unknowns."""
    entries = check_table(count, table)
    below = types_below(count)
    number = 0
    for kind in reversed(list(below)):
        if blocks_of(kind) == 0:
            number = number * choices_below(ones_in(kind), count) + number_of_way(entries, kind, below)
    return number


def number_of_way(entries, kind, below):
    """The number of the way in which a table goes on from a type, as in fill_in."""
    if entries[kind] <= len(kind):
        return 0
    number = 0
    for each in reversed(below[kind]):
        number = number * choices_below(ones_in(each), len(kind)) + number_of_way(entries, each, below)
    return number + 1
