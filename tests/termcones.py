"""Terms to try, their rows, and going along them for a choice of signs, reckoned anew."""

import itertools

from tests.cones import judged_along, minus
from tests.helpers import names_of, parts_first

NIL = ("nil",)
UNIT = ("unit",)


def added(*terms):
    term = terms[0]
    for other in terms[1:]:
        term = ("sum", term, other)
    return term


def opposite(term):
    return ("minus", term)


def less(first, second):
    return ("sum", first, ("minus", second))


def times(count, term):
    """So many times a term, a whole number."""
    if count == 0:
        return NIL
    return added(*[term] * count) if count > 0 else opposite(added(*[term] * -count))


def random_linear(source, names, unit, most=3):
    leaves = [("unknown", name) for name in names] * 2 + [UNIT] * unit + [NIL]
    chosen = [source.choice(leaves) for _ in range(source.randint(1, most))]
    return added(*[opposite(leaf) if source.random() < 0.4 else leaf for leaf in chosen])


def random_term(source, signs, names, unit=False, most=3):
    """Some term with so many signs `lesser` and `greater`."""
    if signs == 0:
        return random_linear(source, names, unit, most)
    first = source.randrange(signs)
    term = (source.choice(("lesser", "greater")), random_term(source, first, names, unit, most),
            random_term(source, signs - 1 - first, names, unit, most))
    if source.random() < 0.2:
        term = opposite(term)
    return added(term, random_linear(source, names, unit, most)) if source.random() < 0.3 else term


def with_signs(count, leaves):
    """A term with so many signs, in which all the leaves stand, each of them in its turn."""
    term = leaves[0]
    for k in range(count):
        term = (("lesser", "greater")[k % 2], term, leaves[(k + 1) % len(leaves)])
    return term


def amount(term, names, numbers, unit):
    """What a term is for numbers of any kind."""
    sign = term[0]
    if sign == "unknown":
        return numbers[names.index(term[1])]
    if sign in ("nil", "unit"):
        return unit * 0 if sign == "nil" else unit
    first = amount(term[1], names, numbers, unit)
    if sign == "minus":
        return -first
    second = amount(term[2], names, numbers, unit)
    return {"sum": first + second, "lesser": min(first, second), "greater": max(first, second)}[sign]


def some_numbers(count, most):
    return list(itertools.product(range(-most, most + 1), repeat=count))


class TermAlong:
    """Goes along terms for a choice of signs; at a question it calls `ask`, at the end of a branch `end`."""

    def __init__(self, terms, signs):
        self.names = names_of(*terms)
        self.signs = signs
        self.places = list(range(len(signs) + 1))
        self.words = [word for term in terms for word in parts_first(term)]

    def go(self, ask, end, at=0, waiting=(), path=()):
        while at < len(self.words):
            word = self.words[at]
            at += 1
            if word[0] == "unknown":
                place = self.names.index(word[1])
                form = [0] * (len(self.signs) + 1)
                form[place + 1] = self.signs[place]
                waiting += (tuple(form),)
            elif word[0] in ("nil", "unit"):
                waiting += ((int(word[0] == "unit"),) + (0,) * len(self.signs),)
            elif word[0] == "minus":
                waiting = waiting[:-1] + (minus(waiting[-1]),)
            elif word[0] == "sum":
                waiting = waiting[:-2] + (tuple(p + q for p, q in zip(*waiting[-2:])),)
            else:
                a, b = waiting[-2:]
                question = tuple(p - q for p, q in zip(a, b))
                for side, longer in ask(question, path):
                    # With a at least b, the lesser one is b.
                    taken = b if (side == "least") == (word[0] == "lesser") else a
                    self.go(ask, end, at, waiting[:-2] + (taken,), longer)
                return
        end(waiting, path)


def choices_of(count):
    return list(itertools.product((-1, 1), repeat=count))


def has_unit(*terms):
    return any(word[0] == "unit" for term in terms for word in parts_first(term))


def judged_term(first, second, value, plain=False):
    """Whether a value is a certificate that the first term is never above the second one."""
    choices = choices_of(len(names_of(first, second)))
    if type(value) is not tuple or len(value) != len(choices):
        return False
    for signs, rows in zip(choices, value):
        along = TermAlong((first, second), signs)
        seen = along.places if has_unit(first, second) else along.places[1:]
        if not judged_along(along, len(signs) + 1, (-1, 1), rows, plain, seen):
            return False
    return True
