"""How much of the cube a saying is at least a value on, its levels, and sums over grids."""

from halftruths.corners import ascending, corner_points
from halftruths.errors import OutOfRange, TooMany
from halftruths.forms import constant, less, scaled
from halftruths.ladders import ladder_of
from halftruths.means import cube_parts, measured_web
from halftruths.sayings import unknowns_of
from halftruths.settling import numbers_of_rows
from halftruths.simplices import cut_by, total_of, volume
from halftruths.values import lowest_terms, value_at

MOST_POINTS = 3000


def share_from(saying, value):
    """The share of a saying from a value on."""
    places, parts = cube_parts((saying,))
    found = []
    for simplex, forms in parts:
        above = less(scaled(forms[0], value[1]), constant(value[0], len(places)))
        found.extend([volume(part, places) for side, part in cut_by(simplex, above) if side == "least"])
    return total_of(found)


def yes_share(saying):
    """The share of a saying from 1 on."""
    return share_from(saying, (1, 1))


def levels_of(saying):
    """The tuple of the values of a saying at the corners of its web, in ascending order."""
    names = unknowns_of((saying,))
    points = corner_points(measured_web((saying,)), len(names))
    found = {(value_at(saying, names, point),): True for point in points}
    return tuple([level[0] for level in ascending(list(found))])


def grid_sum(saying, parts):
    """The sum of a saying over all points whose coordinates are so many parts of 1, a fraction."""
    if parts < 1:
        raise OutOfRange(parts)
    names = unknowns_of((saying,))
    nodes = [()]
    for _ in names:
        if len(nodes) * (parts + 1) > MOST_POINTS:
            raise TooMany("points")
        nodes = [node + (number,) for node in nodes for number in range(parts + 1)]
    nodes = [node + (parts,) for node in nodes]
    return lowest_terms(sum(numbers_of_rows(ladder_of(saying), names, nodes)[-1]), parts)
