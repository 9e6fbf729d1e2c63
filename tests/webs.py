"""Value forms, webs and corners reckoned anew; and sayings with webs as great as is allowed, or just greater."""

import itertools
from math import gcd

from tests.helpers import X, Y, YES, Z, by_side, common_zeros, faces_of, form_worth, names_of, neg, point_of, question

# 9 marks, 2 unknowns.
WEB_OF_60 = ("and", neg(Y), ("same", X, ("same", ("times", ("leads", Y, neg(X)), neg(("same", Y, ("plus", X, X)))),
                                         ("and", ("times", Y, Y), X))))
WEB_OF_61 = ("or", neg(("or", ("same", X, neg(X)), X)),
             ("same", ("times", ("same", neg(X), X), ("and", Y, X)), ("same", Y, ("and", X, neg(Y)))))

# 7 marks, 3 unknowns.
WEB_OF_16 = ("and", Z, ("same", ("plus", Y, ("same", YES, ("or", ("times", Y, X), Z))), ("same", Z, Y)))
WEB_OF_17 = ("plus", Y, ("plus", ("times", X, ("plus", ("times", Y, Y), ("times", Y, Z))), ("times", Z, Y)))

# 12 marks, 1 unknown.
WEB_OF_23 = ("plus", X, ("plus", ("same", ("same", X, neg(X)), ("same", ("same", X, neg(X)), ("times", X, X))),
                         neg(("same", X, neg(("leads", neg(("same", neg(("and", neg(X), X)), ("plus", X, X))), X))))))

# 7 marks, 3 unknowns: the common web of both has 17 members, each alone has fewer than 16.
TWO_WITH_17 = (("plus", X, ("same", ("same", neg(Z), Z), Y)),
               neg(("plus", ("or", ("same", Y, ("or", neg(Y), X)), Y), Z)))

KEPT_AND_PASSED = ((WEB_OF_60, 60, WEB_OF_61), (WEB_OF_16, 16, WEB_OF_17))


def forms_anew(saying, names, mixed):
    """The value forms as a set; mixed questions are put to a set."""
    count = len(names)
    if saying[0] == "unknown":
        return {tuple(int(k > 0 and names[k - 1] == saying[1]) for k in range(count + 1))}
    if saying[0] in ("yes", "no"):
        return {(int(saying[0] == "yes"),) + (0,) * count}
    firsts = forms_anew(saying[1], names, mixed)
    if saying[0] == "not":
        return {tuple(int(k == 0) - number for k, number in enumerate(form)) for form in firsts}
    found = set()
    for first, second in itertools.product(firsts, forms_anew(saying[2], names, mixed)):
        q = question(saying[0], first, second)
        worths = [form_worth(q, place) for place in itertools.product((0, 1), repeat=count)]
        if max(worths) <= 0:
            sides = ("most",)
        elif min(worths) >= 0:
            sides = ("least",)
        else:
            sides = ("least", "most")
            common = gcd(*q)
            sign = 1 if [number for number in q[1:] if number][0] > 0 else -1
            mixed.add(tuple(sign * number // common for number in q))
        found |= {by_side(saying[0], side, first, second) for side in sides}
    return found


def web_anew(sayings):
    mixed = set()
    for saying in sayings:
        forms_anew(saying, names_of(*sayings), mixed)
    return tuple(sorted(mixed))


def corners_anew(sayings):
    count = len(names_of(*sayings))
    places = common_zeros(list(web_anew(sayings)) + faces_of(count), count)
    return tuple(point_of(place) for place in sorted(places) if all(0 <= number <= 1 for number in place))
