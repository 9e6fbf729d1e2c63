"""Sayings without an unknown, and words between two sayings, by order."""

from halftruths.errors import OutOfRange
from halftruths.orderlevels import check_order, levels_at, order_numbers
from halftruths.orders import blocks_of, order_follows, order_type_of, order_types, types_below
from halftruths.ordersayings import saying_with
from halftruths.sayings import unknowns_of
from halftruths.tables import chain_points
from halftruths.values import fraction

MOST_STEPS = 6


def least_without(saying, name):
    """A saying without the name, as little above the saying as can be."""
    check_order((saying,))
    names = unknowns_of((saying,))
    if name not in names:
        return saying
    others = tuple([other for other in names if other != name])
    return saying_with(others, types_left(saying, names, others, True))


def greatest_without(saying, name):
    """A saying without the name, as little below the saying as can be."""
    check_order((saying,))
    names = unknowns_of((saying,))
    if name not in names:
        return saying
    others = tuple([other for other in names if other != name])
    fails = types_left(saying, names, others, False)
    return saying_with(others, {kind: True for kind in order_types(len(others)) if kind not in fails})


def types_left(saying, names, others, is_one):
    """The order types for the others of the points at which a saying is 1 by order, or is not, as keys of a dict."""
    kinds = order_types(len(names))
    places = [names.index(other) for other in others]
    found = {}
    for kind, level in zip(kinds, levels_at(saying, names, kinds)):
        if (level > len(names)) == is_one:
            found[order_type_of(tuple([fraction(kind[place], len(names) + 1) for place in places]))] = True
    return found


def order_word(first, second):
    """A word between two sayings; None if there is none."""
    if not order_follows((first,), second):
        return None
    names = unknowns_of((first,))
    others = unknowns_of((second,))
    shared = tuple([name for name in names if name in others])
    if shared == names:
        return first
    if len(shared) == len(others):
        return second
    return saying_with(shared, types_left(first, names, shared, True))


def order_word_in(first, second, steps):
    """A word between two sayings in the chain of so many steps; None if there is none."""
    check_order((first, second))
    if not 1 <= steps <= MOST_STEPS:
        raise OutOfRange(steps)
    names = unknowns_of((first,))
    others = unknowns_of((second,))
    shared = tuple([name for name in names if name in others])
    if shared == names:
        return first if leads_in(first, second, steps) else None
    if len(shared) == len(others):
        return second if leads_in(first, second, steps) else None
    trues = chosen_types(shared, barred_levels(first, second, shared, steps))
    return None if trues is None else saying_with(shared, trues)


def leads_in(first, second, steps):
    """Whether (A leads B) is valid by order in the chain of so many steps."""
    names = unknowns_of((first, second))
    kinds = [kind for kind in order_types(len(names)) if blocks_of(kind) < steps]
    return all([a <= b for a, b in zip(levels_at(first, names, kinds), levels_at(second, names, kinds))])


def numbers_in(saying, shared, steps):
    """For all points of a chain the list of the pairs of the numbers of the shared names and that of the saying."""
    names = unknowns_of((saying,))
    points = chain_points(steps, len(names))
    columns = {name: [point[place] for point in points] for place, name in enumerate(names)}
    columns_shared = [columns[name] for name in shared]
    keys = [tuple([column[at] for column in columns_shared]) for at in range(len(points))]
    return list(zip(keys, order_numbers(saying, columns, steps, len(points))))


def barred_levels(first, second, shared, steps):
    """The pairs of an order type for the shared names and a level that no word between can have there, as a dict."""
    lows = {}
    highs = {}
    for key, number in numbers_in(first, shared, steps):
        lows[key] = max(lows.get(key, 0), number)
    for key, number in numbers_in(second, shared, steps):
        highs[key] = min(highs.get(key, steps), number)
    barred = {}
    for key in lows:
        kind = order_type_of(tuple([fraction(number, steps) for number in key]))
        for number, level in list(zip(key, kind)) + [(0, 0), (steps, len(key) + 1)]:
            if not lows[key] <= number <= highs[key]:
                barred[(kind, level)] = True
    return barred


def chosen_types(shared, barred):
    """The order types at which a word between is 1, as keys of a dict; None if there is no such word."""
    below = types_below(len(shared))
    found = {}
    for kind in below:
        if blocks_of(kind) == 0:
            trues = trues_below(kind, below, barred)
            if trues is None:
                return None
            found.update({each: True for each in trues})
    return found


def trues_below(kind, below, barred):
    """The list of the types, of a type and those below it, at which a word between is 1; the type is its first choice.

    None if there is no such word.
    """
    if (kind, len(kind) + 1) not in barred:
        parts = [trues_below(each, below, barred) for each in below[kind]]
        if None not in parts:
            return [kind] + [each for part in parts for each in part]
    return [] if stays(kind, blocks_of(kind), below, barred) else None


def stays(kind, level, below, barred):
    """Whether a word between can have a level that is no higher than the blocks at a type and at all those below it."""
    if (kind, level) in barred:
        return False
    return all([stays(each, level, below, barred) for each in below[kind]])
