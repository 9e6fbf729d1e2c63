"""Sayings that are 1 by order at given order types."""

from halftruths.orders import blocks_of, order_types, raised_type


def saying_with(names, trues):
    """A saying without `plus` that is 1 by order at just some order types for the names, the keys of a dict.

    With each order type with blocks that is among them, its raised type must be among them. All values by order of
    such a saying hang on where it is 1: elsewhere it is as at the first type, of all that lead up to this one by
    raising, at which it is not 1.
    """
    parts = []
    for kind in order_types(len(names)):
        if kind not in trues and (blocks_of(kind) == 0 or raised_type(kind) in trues):
            parts.append(forbidden(names, kind))
    return all_of(parts)


def all_of(sayings):
    """All sayings of a list put together by `and`."""
    if not sayings:
        return ("yes",)
    whole = sayings[0]
    for saying in sayings[1:]:
        whole = ("and", whole, saying)
    return whole


def forbidden(names, kind):
    """A saying that is not 1 by order at just those order types that are an order type or are raised to it.

    There the unknowns of level 0 and in blocks lie as told, and those of the highest level above all blocks. It
    is A leads x, with x from the highest block; if any of this is otherwise, A is not greater than x, or x is 1.
    """
    unknowns = [("unknown", name) for name in names]
    top = blocks_of(kind)
    conditions = [("not", x) for x, level in zip(unknowns, kind) if level == 0]
    firsts = [unknowns[kind.index(level)] for level in range(1, top + 1)]
    for x, level in zip(unknowns, kind):
        if 0 < level <= top and x != firsts[level - 1]:
            conditions.append(("same", firsts[level - 1], x))
    if firsts:
        conditions.append(("not", ("not", firsts[0])))
    for low, high in zip(firsts, firsts[1:]):
        conditions.append(("leads", ("leads", high, low), high))
    conditions.extend([x for x, level in zip(unknowns, kind) if level > len(kind)])
    if not conditions:
        return ("no",)
    return ("leads", all_of(conditions), firsts[-1]) if firsts else ("not", all_of(conditions))
