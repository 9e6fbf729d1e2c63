"""Going along sayings in a case, cones and rows for products, reckoned anew."""

import itertools

from tests.helpers import names_of, parts_first


def rays(path, places):
    """Directions that together span the cone of a path; the forms have numbers at the places alone."""
    count = len(places)
    forms = [tuple(form[place] for place in places) for form in path]
    forms += [tuple(int(k == j) for k in range(count)) for j in range(count)]
    if count == 0:
        return []
    if count == 1:
        tried = [(1,)]
    elif count == 2:
        tried = [ray for a, b in forms for ray in ((b, -a), (-b, a))]
    else:
        tried = []
        for (a, b, c), (d, e, f) in itertools.combinations(forms, 2):
            ray = (b * f - c * e, c * d - a * f, a * e - b * d)
            tried += [ray, tuple(-number for number in ray)]
    return [ray for ray in tried if any(ray) and all(sum(p * q for p, q in zip(form, ray)) >= 0 for form in forms)]


def signs(path, places, form):
    """The least and the greatest of what a form is at the rays of the cone; 0, 0 where there is none."""
    found = [sum(form[place] * number for place, number in zip(places, ray)) for ray in rays(path, places)]
    return min(found + [0]), max(found + [0])


def minus(form):
    return tuple(-number for number in form)


def side_form(mark, side, a, b):
    """What a mark takes by the side of its question a - b."""
    difference = tuple(p - q for p, q in zip(a, b))
    zero = (0,) * len(a)
    least = side == "least"
    return {"leads": zero if least else minus(difference), "and": a if least else b, "or": b if least else a,
            "same": difference if least else minus(difference)}[mark]


def unasked(mark, a, b, zero):
    """(whether it asks nothing, what it gets then)."""
    if mark == "times":
        return True, None if a is None or b is None else tuple(p + q for p, q in zip(a, b))
    if a is not None and b is not None:
        return False, None
    return True, {"leads": zero if a is None else None, "and": None, "or": b if a is None else a,
                  "same": zero if a is None and b is None else None}[mark]


class Along:
    """Goes along sayings in a case; at a question it calls `ask`, at the end of a branch `end`."""

    def __init__(self, sayings, case, names=None):
        self.names = names_of(*sayings) if names is None else names
        self.case = case
        self.places = [k for k, entry in enumerate(case) if entry]
        self.words = [word for saying in sayings for word in parts_first(saying)]

    def go(self, ask, end, at=0, waiting=(), path=()):
        zero = (0,) * len(self.case)
        while at < len(self.words):
            word = self.words[at]
            if word[0] == "unknown":
                place = self.names.index(word[1])
                form = tuple(int(k == place) for k in range(len(zero))) if self.case[place] else None
                waiting += (form,)
            elif word[0] in ("yes", "no"):
                waiting += (zero if word[0] == "yes" else None,)
            elif word[0] == "not":
                waiting = waiting[:-1] + (zero if waiting[-1] is None else None,)
            else:
                a, b = waiting[-2:]
                nothing, found = unasked(word[0], a, b, zero)
                if not nothing:
                    question = tuple(p - q for p, q in zip(a, b))
                    for side, longer in ask(question, path):
                        form = side_form(word[0], side, a, b)
                        self.go(ask, end, at + 1, waiting[:-2] + (form,), longer)
                    return
                waiting = waiting[:-2] + (found,)
            at += 1
        end(waiting, path)


def plain_side(path, places, question):
    """The side of a question, or `split` if it changes sign."""
    low, high = signs(path, places, question)
    return "split" if low < 0 < high else "least" if low >= 0 else "most"


def pieces_anew(sayings, case):
    """The pairs (path, forms) at the ends of all branches."""
    along = Along(sayings, case)
    found = []

    def ask(question, path):
        side = plain_side(path, along.places, question)
        if side != "split":
            return [(side, path)]
        return [("least", path + (question,)), ("most", path + (minus(question),))]
    along.go(ask, lambda waiting, path: found.append((path, waiting)))
    return found


class WrongRows(Exception):
    pass


def need(fits):
    if not fits:
        raise WrongRows


def is_sum(path, places, form, k, multiples):
    """Whether the sum of the multiples is k times the form."""
    if type(k) is not int or k < 1 or type(multiples) is not tuple or len(multiples) != len(path) + len(places):
        return False
    if not all(type(number) is int and number >= 0 for number in multiples):
        return False
    units = [tuple(int(k == place) for k in range(len(form))) for place in places]
    total = [0] * len(form)
    for each, multiple in zip(list(path) + units, multiples):
        total = [t + multiple * number for t, number in zip(total, each)]
    return total == [k * number for number in form]


def judged(sayings, case, goal, rows, plain=False, names=None):
    """Whether these are rows for a goal, told as numbers for the sayings; if wanted, also whether they are plain."""
    return judged_along(Along(sayings, case, names), len(case), goal, rows, plain)


def judged_along(along, size, goal, rows, plain=False, seen=None):
    """As judged, for anything that is gone along with forms of so many numbers.

    Whether a question changes sign is looked at where the numbers at the places that are seen are from 0 on; they
    are the places of the cone, but for those at which all forms have 0.
    """
    if type(rows) is not tuple:
        return False
    left = list(rows)
    seen = along.places if seen is None else seen

    def next_row(kind, size):
        need(left)
        row = left.pop(0)
        need(type(row) is tuple and len(row) == size and type(row[0]) is str and row[0] == kind)
        return row

    def ask(question, path):
        need(left and type(left[0]) is tuple and left[0])
        if plain:
            side = plain_side(path, seen, question)
            need(left[0][:2] == ("is", side) or (side == "split" and left[0] == ("split",)))
        if left[0] == ("split",):
            left.pop(0)
            return [("least", path + (question,)), ("most", path + (minus(question),))]
        _, side, k, multiples = next_row("is", 4)
        need(side in ("least", "most") and type(side) is str)
        need(is_sum(path, along.places, question if side == "least" else minus(question), k, multiples))
        return [(side, path)]

    def end(waiting, path):
        _, k, multiples = next_row("sum", 3)
        need(None not in waiting)
        form = [0] * size
        for number, each in zip(goal, waiting):
            form = [f + number * entry for f, entry in zip(form, each)]
        need(is_sum(path, along.places, tuple(form), k, multiples))

    try:
        along.go(ask, end)
    except WrongRows:
        return False
    return not left
