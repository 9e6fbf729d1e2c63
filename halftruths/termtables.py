"""Term tables: terms of at most two names, without the unit, told by what they are in each direction."""

from halftruths.errors import TooGreat, WrongMark
from halftruths.fans import are_rays, are_sectors, fan_cost, inner_rays, sectors_of
from halftruths.joined import joined
from halftruths.kinds import are_whole
from halftruths.terms import check_terms, has_unit, row_of, term_unknowns
from halftruths.termwalks import walk_with_signs
from halftruths.values import check_names
from halftruths.walks import ends_of

AXES = ((1, 0), (0, 1), (-1, 0), (0, -1))
# The signs of both numbers between each axis and the next one.
QUARTERS = ((1, 1), (-1, 1), (-1, -1), (1, -1))
LEAST_RAYS = 4
MOST_RAYS = 1000
GREATEST_COEFFICIENT = 40
GREATEST_COST = 300
NIL = ("nil",)


def term_table(term, names):
    """The term table of a term for a tuple of at most two names."""
    if has_unit(term):
        raise WrongMark("unit")
    check_terms((term,))
    check_names(term_unknowns((term,)), names)
    if not names:
        return ()
    if len(names) == 1:
        return amount_of(term, names, (1,)), -amount_of(term, names, (-1,))
    return plain_round_fan(term, names)


def amount_of(term, names, numbers):
    """What a term is for whole numbers for the names."""
    return row_of(term, {name: (number,) for name, number in zip(names, numbers)}, (0,))[0]


def plain_round_fan(term, names):
    """The plain round fan of a term for two names."""
    rays = []
    for axis, signs in zip(AXES, QUARTERS):
        pairs = [axis] + rays_in_quarter(term, names, signs)
        rays.extend([pair + (amount_of(term, names, pair),) for pair in pairs])
    sectors = round_sectors(rays)
    return tuple([ray for ray, before, after in zip(rays, sectors[-1:] + sectors, sectors)
                  if before != after or ray[:2] in AXES])


def rays_in_quarter(term, names, signs):
    """The pairs, between two axes and in their order, at which a question of a term for these signs is 0."""
    forms = [form[1:] for walk in ends_of(walk_with_signs((term,), names, signs)) for form in walk.path]
    pairs = inner_rays(forms)
    if signs[0] != signs[1]:
        pairs = pairs[::-1]
    return [(signs[0] * p, signs[1] * q) for p, q in pairs]


def round_sectors(rays):
    """The list of the coefficients of all sectors of a round fan, the one behind its last ray, too."""
    return sectors_of(list(rays) + [rays[0]])


def is_term_table(value, count):
    """Whether a value is a term table for so many names, with a round fan that need not be plain."""
    if count == 0:
        return value == ()
    return are_whole(value, 2) if count == 1 else is_round_fan(value)


def is_round_fan(value):
    """Whether a value is a round fan."""
    if not are_rays(value, LEAST_RAYS, MOST_RAYS) or value[0][:2] != (1, 0):
        return False
    pairs = [ray[:2] for ray in value]
    quarters = [quarter_of(pair) for pair in pairs]
    if quarters != sorted(quarters) or not all([axis in pairs for axis in AXES]):
        return False
    return are_sectors(value + value[:1])


def quarter_of(pair):
    """The number of the quarter of a whole turn in which a ray lies, each with the axis that begins it."""
    p, q = pair
    if p > 0 and q >= 0:
        return 0
    if q > 0:
        return 1
    return 2 if p < 0 else 3


def term_of_table(names, table):
    """A term without `unit` and without other unknowns than the names that has a term table."""
    check_term_table(names, table)
    if not names:
        return NIL
    if len(names) == 1:
        return bent_term(("unknown", names[0]), table[0], table[1])
    return round_term([("unknown", name) for name in names], table)


def check_term_table(names, table):
    """Raises TooGreat if a term table has too great numbers, or if it costs too much."""
    sectors = [table] if len(names) < 2 else round_sectors(table)
    if max([abs(number) for sector in sectors for number in sector], default=0) > GREATEST_COEFFICIENT:
        raise TooGreat("coefficient")
    if len(names) == 2 and fan_cost(sectors) > GREATEST_COST:
        raise TooGreat("cost")


def times_term(unknown, number):
    """So many times an unknown, a whole number."""
    if number == 0:
        return NIL
    whole = joined("sum", [unknown] * abs(number))
    return whole if number > 0 else ("minus", whole)


def bent_term(unknown, right, left):
    """A term that is so many times an unknown from 0 on, and so many times it below 0."""
    if right == left:
        return times_term(unknown, right)
    return ("greater" if right > left else "lesser", times_term(unknown, right), times_term(unknown, left))


def round_term(unknowns, fan):
    """A term with the function of a round fan.

    It is the sum of what it is along both axes, and for each other ray of a term that is not 0 in its quarter alone
    and bends at the ray just as the fan does.
    """
    worths = {ray[:2]: ray[2] for ray in fan}
    parts = [bent_term(unknowns[0], worths[(1, 0)], -worths[(-1, 0)]),
             bent_term(unknowns[1], worths[(0, 1)], -worths[(0, -1)])]
    sectors = round_sectors(fan)
    for ray, before, after in zip(fan, sectors[-1:] + sectors, sectors):
        if ray[:2] not in AXES and before != after:
            parts.append(corner_term(unknowns, ray, before, after))
    return joined("sum", parts)


def corner_term(unknowns, ray, before, after):
    """A term that bends at a ray as from one sector's form to the next one's, and is 0 in all other quarters.

    With s and t for the sizes of both numbers, and p and q for those of the ray, it is in its quarter so many times
    the lesser one of q s and p t.
    """
    p, q = ray[:2]
    times = (before[1] - after[1]) // p
    first = times_term(unknowns[0], abs(times * q) * (1 if p > 0 else -1))
    second = times_term(unknowns[1], abs(times * p) * (1 if q > 0 else -1))
    corner = ("greater", NIL, ("lesser", first, second))
    return corner if times > 0 else ("minus", corner)
