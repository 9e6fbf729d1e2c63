"""The meaning of sayings by order, and the order types of points."""

from halftruths.errors import OutOfRange
from halftruths.orderlevels import check_order, levels_at, order_numbers
from halftruths.sayings import unknowns_of
from halftruths.values import check_names, fraction, numbers_for

MOST_STEPS = 1000


def order_value(saying, names, point):
    """The value by order of a saying at a point for the names."""
    check_order((saying,))
    check_names(unknowns_of((saying,)), names)
    whole, numbers = numbers_for(names, point)
    columns = {name: [numbers[name]] for name in names}
    return fraction(order_numbers(saying, columns, whole, 1)[0], whole)


def order_types(count):
    """The tuple of the order types for so many unknowns, in ascending order."""
    found = [()]
    for _ in range(count):
        found = [levels + (level,) for levels in found for level in range(count + 2)]
    return tuple([levels for levels in found if has_all_levels(levels)])


def has_all_levels(levels):
    """Whether the levels that lie between the lowest and the highest one are 1, 2, .. without a gap."""
    return all([level in levels for level in range(1, blocks_of(levels))])


def blocks_of(kind):
    """The number of the blocks of an order type."""
    return max([level for level in kind if level <= len(kind)], default=0)


def order_type_of(point):
    """The order type of a point."""
    whole, numbers = numbers_for(list(range(len(point))), point)
    inner = sorted(list({numbers[place]: True for place in numbers if 0 < numbers[place] < whole}))
    levels = {number: at + 1 for at, number in enumerate(inner)}
    levels[0] = 0
    levels[whole] = len(point) + 1
    return tuple([levels[numbers[place]] for place in range(len(point))])


def raised_type(kind):
    """The raised type of an order type with blocks."""
    top = blocks_of(kind)
    if top == 0:
        raise OutOfRange(kind)
    return tuple([len(kind) + 1 if level == top else level for level in kind])


def types_below(count):
    """A dict that tells for each order type for so many unknowns the list of those whose raised type it is."""
    below = {kind: [] for kind in order_types(count)}
    for kind in list(below):
        if blocks_of(kind) > 0:
            below[raised_type(kind)].append(kind)
    return below


def point_of_type(kind):
    """The point of an order type in which the levels are evenly far from each other."""
    return tuple([fraction(level, len(kind) + 1) for level in kind])


def order_level(saying, names, kind):
    """The level of a saying at an order type for the names."""
    check_order((saying,))
    check_names(unknowns_of((saying,)), names)
    return levels_at(saying, names, [kind])[0]


def failing_types(saying):
    """The list of the order types at which a saying is not 1 by order, in ascending order."""
    names = unknowns_of((saying,))
    kinds = order_types(len(names))
    return [kind for kind, level in zip(kinds, levels_at(saying, names, kinds)) if level <= len(names)]


def order_valid(saying):
    """Whether a saying is valid by order."""
    check_order((saying,))
    return not failing_types(saying)


def order_alike(first, second):
    """Whether two sayings are alike by order."""
    return order_parting(first, second) is None


def order_follows(givens, saying):
    """Whether a saying follows by order from the sayings of a tuple."""
    sayings = givens + (saying,)
    check_order(sayings)
    names = unknowns_of(sayings)
    kinds = order_types(len(names))
    top = len(names) + 1
    least = [top] * len(kinds)
    for given in givens:
        least = [min(a, b) for a, b in zip(least, levels_at(given, names, kinds))]
    return all([a < top or b == top for a, b in zip(least, levels_at(saying, names, kinds))])


def order_parting(first, second):
    """The first order type at which the levels of two sayings differ; None if they are alike by order."""
    check_order((first, second))
    names = unknowns_of((first, second))
    kinds = order_types(len(names))
    for kind, left, right in zip(kinds, levels_at(first, names, kinds), levels_at(second, names, kinds)):
        if left != right:
            return kind
    return None


def order_valid_in(saying, steps):
    """Whether a saying is valid by order in the chain of so many steps."""
    check_order((saying,))
    if not 1 <= steps <= MOST_STEPS:
        raise OutOfRange(steps)
    return all([blocks_of(kind) >= steps for kind in failing_types(saying)])


def order_steps(saying):
    """The least number of steps of a chain in which a saying is not valid by order; None if it is valid."""
    check_order((saying,))
    return min([blocks_of(kind) + 1 for kind in failing_types(saying)], default=None)
