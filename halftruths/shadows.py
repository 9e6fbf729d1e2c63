"""Shadows and sure parts of sayings on one name, and the word between two sayings."""

from halftruths.cells import falls_below, least_on
from halftruths.corners import ascending
from halftruths.errors import TooGreat, TooMany
from halftruths.follow import least_uses
from halftruths.forms import constant, less, opposite, unit
from halftruths.regions import saying_of_paths, yes_paths
from halftruths.sayings import unknowns_of
from halftruths.trees import tree_pieces
from halftruths.values import compared
from halftruths.web import web_in_bound

MOST_STRETCHES = 4
GREATEST_DENOMINATOR = 5
ALL_PLACES = (((0, 1), (1, 1)),)


def shadow_of(saying, name):
    """The shadow of a saying on a name."""
    web_in_bound((saying,))
    return shadow_in_bound(saying, name)


def shadow_in_bound(saying, name):
    """The shadow of a saying whose bounds have been looked at."""
    names = unknowns_of((saying,))
    paths = yes_paths(saying)
    if name not in names:
        return ALL_PLACES if paths else ()
    place = names.index(name)
    return united([span_of(path, place, len(names)) for path in paths])


def span_of(path, place, count):
    """The least and the greatest value of the unknown at a place, in the cell of a path, which is not empty."""
    form = unit(place, count)
    return least_on(path, form)[0][place], least_on(path, opposite(form))[0][place]


def united(spans):
    """The tuple of the stretches that have the places of some spans."""
    found = []
    for low, high in ascending(spans):
        if not found or compared(low, found[-1][1]) > 0:
            found.append((low, high))
        elif compared(high, found[-1][1]) > 0:
            found[-1] = (found[-1][0], high)
    return tuple(found)


def sure_part_of(saying, name):
    """The sure part of a saying on a name."""
    web_in_bound((saying,))
    names = unknowns_of((saying,))
    one = constant(1, len(names))
    below = [(path, forms[0]) for path, forms in tree_pieces((saying,), names) if forms[0] != one]
    if name not in names:
        return () if below else ALL_PLACES
    return without_spans([unsure_span(path, form, names.index(name)) for path, form in below])


def unsure_span(path, form, place):
    """(low, high, low is one, high is one): the places at which a form is below 1 at some point of a cell.

    The cell has inner points, and the form is not 1 throughout; so all places between low and high are such.
    """
    count = len(form) - 1
    low, high = span_of(path, place, count)
    up_to_low = less(constant(low[0], count), tuple([low[1] * number for number in unit(place, count)]))
    from_high = less(tuple([high[1] * number for number in unit(place, count)]), constant(high[0], count))
    rest = less(form, constant(1, count))
    return low, high, falls_below(path + (up_to_low,), rest), falls_below(path + (from_high,), rest)


def without_spans(spans):
    """The tuple of the stretches of the places that are in no span; together the spans are open."""
    ends = {(0, 1): True, (1, 1): True}
    for span in spans:
        ends[span[0]] = True
        ends[span[1]] = True
    places = [point[0] for point in ascending([(place,) for place in ends])]
    numbers = {place: number for number, place in enumerate(places)}
    # Place number k stands at 2 k, and what lies between it and the next one at 2 k + 1.
    free = [True] * (2 * len(places) - 1)
    for low, high, with_low, with_high in spans:
        first = 2 * numbers[low] + (0 if with_low else 1)
        last = 2 * numbers[high] - (0 if with_high else 1)
        for at in range(first, last + 1):
            free[at] = False
    return free_stretches(places, free)


def free_stretches(places, free):
    """The tuple of the stretches of what is free, the places and what lies between them being numbered."""
    found = []
    start = None
    for number, place in enumerate(places):
        at = 2 * number
        if free[at] and start is None:
            start = place
        if free[at] and (at + 1 == len(free) or not free[at + 1]):
            found.append((start, place))
            start = None
    return tuple(found)


def saying_of_stretches(stretches, name):
    """A saying, with no unknown but the name, that is 1 at just the places of some stretches."""
    if len(stretches) > MOST_STRETCHES:
        raise TooMany("stretches")
    for low, high in stretches:
        if max(low[1], high[1]) > GREATEST_DENOMINATOR:
            raise TooGreat("denominator")
    return saying_of_paths([path_of_stretch(low, high) for low, high in stretches], (name,))


def path_of_stretch(low, high):
    """The path whose cell is a stretch."""
    return ((-low[0], low[1]), (high[0], -high[1]))


def word_between(premise, conclusion):
    """A saying between two sayings, in their shared unknown alone; None if the conclusion does not follow."""
    names = unknowns_of((conclusion,))
    shared = [name for name in unknowns_of((premise,)) if name in names]
    if len(shared) > 1:
        raise TooMany("shared")
    if least_uses(premise, conclusion) is None:
        return None
    if not shared:
        return ("yes",) if yes_paths(premise) else ("no",)
    return saying_of_stretches(shadow_in_bound(premise, shared[0]), shared[0])
