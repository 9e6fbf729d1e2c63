"""Tables: the values of sayings at all points of a chain."""

from halftruths.errors import NotAFunction, OutOfRange, TooGreat, TooMany, WrongSize
from halftruths.ladders import ladder_of
from halftruths.sayings import unknowns_of
from halftruths.semigroups import common_divisor
from halftruths.settling import numbers_of_rows
from halftruths.toldback import mesh_with, told_over
from halftruths.values import check_names, fraction

MOST_POINTS = 2000
MOST_NAMES = 2
GREATEST_CHAINS = (8, 8, 4)


def table_of(saying, chain, names):
    """The table of a saying for the names."""
    check_names(unknowns_of((saying,)), names)
    check_points(chain, len(names))
    return tuple(numbers_of_rows(ladder_of(saying), names, chain_points(chain, len(names)))[-1])


def check_chain(chain):
    """Raises OutOfRange for an integer that is no chain."""
    if chain < 1:
        raise OutOfRange(chain)


def check_points(chain, count):
    """Raises an error if this is no chain, or has too many points for so many unknowns."""
    check_chain(chain)
    points = 1
    for _ in range(count):
        points *= chain + 1
        if points > MOST_POINTS:
            raise TooMany("points")


def chain_points(chain, count):
    """The list of the points of a chain in the order of the tables, each as its numbers and then the chain."""
    found = [()]
    for _ in range(count):
        found = [numbers + (number,) for number in range(chain + 1) for numbers in found]
    return [numbers + (chain,) for numbers in found]


def told_table(table, chain, names):
    """A ladder whose values at the points of a chain are those of a table."""
    if len(names) > MOST_NAMES:
        raise TooMany("unknowns")
    check_chain(chain)
    if chain > GREATEST_CHAINS[len(names)]:
        raise TooGreat("chain")
    points = chain_points(chain, len(names))
    check_table(table, chain, points)
    entries = {numbers: entry for numbers, entry in zip(points, table)}
    mesh = mesh_with([tuple([fraction(number, chain) for number in numbers[:-1]]) for numbers in points], names)
    heights = []
    for node in mesh.nodes():
        # Between the points of the chain any values will do.
        times, rest = divmod(chain, node[-1])
        at = tuple([times * number for number in node])
        heights.append(entries[at] // times if rest == 0 else 0)
    return told_over(mesh, heights)


def check_table(table, chain, points):
    """Raises an error if no saying has this table, for the points of the chain."""
    if len(table) != len(points):
        raise WrongSize(len(table))
    for place, entry in enumerate(table):
        # All of a point's numbers are multiples of this, so the saying's is one, too.
        if not 0 <= entry <= chain or entry % common_divisor(points[place]) != 0:
            raise NotAFunction(place)


def table_count(chain, count):
    """How many tables there are of sayings of so many unknowns."""
    check_points(chain, count)
    many = 1
    for numbers in chain_points(chain, count):
        many *= chain // common_divisor(numbers) + 1
    return many
