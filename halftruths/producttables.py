"""Tables by products: the lengths of a saying of at most two names in each case, and sayings that have them."""

from halftruths.casewalks import walk_in_case
from halftruths.errors import TooGreat
from halftruths.fans import are_rays, are_sectors, fan_cost, inner_rays, sectors_of
from halftruths.joined import joined
from halftruths.kinds import is_whole
from halftruths.products import cases_of, check_products, length_of
from halftruths.sayings import unknowns_of
from halftruths.values import check_names
from halftruths.walks import ends_of

MOST_RAYS = 40
GREATEST_COEFFICIENT = 40
GREATEST_COST = 300


def product_table(saying, names):
    """The table of a saying for a tuple of at most two names."""
    check_products((saying,))
    check_names(unknowns_of((saying,)), names)
    return tuple([table_entry(saying, names, case) for case in cases_of(len(names))])


def table_entry(saying, names, case):
    """The entry of the table of a saying for a case of the names."""
    length = length_in(saying, names, case)
    if length is None:
        return None
    if sum(case) == 0:
        return ()
    return length if sum(case) == 1 else plain_fan(saying, names)


def length_in(saying, names, numbers):
    """The length of a saying where the names have these numbers as lengths, and 0 stands for the value 0."""
    return length_of(saying, {name: number if number else None for name, number in zip(names, numbers)})


def plain_fan(saying, names):
    """The plain fan of a saying for two names that are both positive."""
    ends = ends_of(walk_in_case((saying,), names, (1, 1)))
    pairs = [(1, 0)] + inner_rays([form for walk in ends for form in walk.path]) + [(0, 1)]
    rays = [pair + (length_of(saying, {names[0]: pair[0], names[1]: pair[1]}),) for pair in pairs]
    sectors = sectors_of(rays)
    kept = [ray for ray, before, after in zip(rays[1:], sectors, sectors[1:]) if before != after]
    return tuple(rays[:1] + kept + rays[-1:])


def is_product_table(value, count):
    """Whether a value is a table for so many names, with a fan that need not be plain."""
    cases = cases_of(count)
    if not isinstance(value, tuple) or len(value) != len(cases):
        return False
    return all([entry is None or is_entry(entry, sum(case)) for entry, case in zip(value, cases)])


def is_entry(value, positive):
    """Whether a value other than None is an entry for a case with so many positive names."""
    if positive == 0:
        return value == ()
    if positive == 1:
        return is_whole(value) and value >= 0
    if not are_rays(value, 2, MOST_RAYS) or min([number for ray in value for number in ray]) < 0:
        return False
    return value[0][:2] == (1, 0) and value[-1][:2] == (0, 1) and are_sectors(value)


def saying_of_table(names, table):
    """A saying without other unknowns than the names that has a table."""
    check_table(table)
    parts = []
    for case, entry in zip(cases_of(len(names)), table):
        if entry is not None:
            parts.append(case_saying([("unknown", name) for name in names], case, entry))
    return joined("or", parts) if parts else ("no",)


def check_table(table):
    """Raises TooGreat if a table has too great numbers, or if it costs too much."""
    cost = 0
    for entry in table:
        if entry is None or entry == ():
            cost += 1
        elif is_whole(entry):
            check_coefficients([(entry, 0)])
            cost += entry + 1
        else:
            sectors = sectors_of(entry)
            check_coefficients(sectors)
            cost += fan_cost(sectors)
    if cost > GREATEST_COST:
        raise TooGreat("cost")


def check_coefficients(sectors):
    """Raises TooGreat if one of some coefficients is too great in size."""
    for a, b in sectors:
        if max(abs(a), abs(b)) > GREATEST_COEFFICIENT:
            raise TooGreat("coefficient")


def case_saying(unknowns, case, entry):
    """A saying that has the grade 0 but in the case of some unknowns, and what the entry tells there."""
    parts = []
    for unknown, positive in zip(unknowns, case):
        parts.append(("not", ("not", unknown)) if positive else ("not", unknown))
    if sum(case) == 1:
        parts.append(times_saying(unknowns[case.index(1)], entry))
    elif sum(case) == 2:
        parts.append(fan_saying(unknowns, entry))
    return joined("and", parts) if parts else ("yes",)


def times_saying(unknown, times):
    """An unknown times itself, so many times."""
    return joined("times", [unknown] * times) if times else ("yes",)


def fan_saying(unknowns, fan):
    """A saying that has the function of a fan as its length where two unknowns are positive.

    That is the greatest, over the sectors, of the least of all those forms of sectors that are not below the
    sector's own form in it. Lengths that are greater belong to grades that are less.
    """
    sectors = sectors_of(fan)
    sayings = {form: form_saying(unknowns, form) for form in sectors}
    groups = {}
    for first, second in zip(fan, fan[1:]):
        groups[tuple([form for form in sayings if is_above(form, first) and is_above(form, second)])] = True
    return joined("and", [joined("or", [sayings[form] for form in group]) for group in groups])


def is_above(form, ray):
    """Whether a form is at least the value of a ray at it."""
    return form[0] * ray[0] + form[1] * ray[1] >= ray[2]


def form_saying(unknowns, form):
    """A saying with the length that a form tells, or 0 where the form is below 0, if both unknowns are positive."""
    above = [unknown for unknown, number in zip(unknowns, form) for _ in range(number)]
    below = [unknown for unknown, number in zip(unknowns, form) for _ in range(-number)]
    if not above:
        return ("yes",)
    whole = joined("times", above)
    return ("leads", joined("times", below), whole) if below else whole
