"""Grades in rows of pieces, placements and chain certificates, reckoned anew."""

import itertools
from fractions import Fraction

from tests.helpers import names_of, pair, parts_first

TOP = ("one",)


def plain_grade(grade):
    """A grade as something that Python compares: the top stands behind all pieces."""
    return (float("inf"), Fraction(0)) if grade == TOP else (grade[1], Fraction(*grade[2]))


def told_grade(grade):
    return TOP if grade[0] == float("inf") else ("in", grade[0], pair(grade[1]))


def mark_grade(mark, kinds, a, b):
    """What a mark gives for two plain grades."""
    top = (float("inf"), Fraction(0))
    if mark == "and":
        return min(a, b)
    if mark == "or":
        return max(a, b)
    same_piece = a[0] == b[0] != float("inf")
    if mark == "times":
        if not same_piece:
            return min(a, b)
        v, w = a[1], b[1]
        return (a[0], {"sum": max(Fraction(0), v + w - 1), "product": v * w, "step": min(v, w)}[kinds[a[0]]])
    if mark == "leads":
        if a <= b:
            return top
        if not same_piece:
            return b
        v, w = a[1], b[1]
        return (a[0], {"sum": lambda: 1 - v + w, "product": lambda: w / v, "step": lambda: w}[kinds[a[0]]]())
    return min(mark_grade("leads", kinds, a, b), mark_grade("leads", kinds, b, a))


def chain_worth(saying, kinds, names, grades):
    """The plain grade of a saying at plain grades."""
    kind = saying[0]
    if kind == "unknown":
        return grades[names.index(saying[1])]
    if kind in ("yes", "no"):
        return (float("inf"), Fraction(0)) if kind == "yes" else (0, Fraction(0))
    first = chain_worth(saying[1], kinds, names, grades)
    if kind == "not":
        return mark_grade("leads", kinds, first, (0, Fraction(0)))
    return mark_grade(kind, kinds, first, chain_worth(saying[2], kinds, names, grades))


def is_top(saying, kinds, names, grades):
    """Whether a saying is at the top at grades as they are told."""
    return chain_worth(saying, kinds, names, [plain_grade(grade) for grade in grades])[0] == float("inf")


def placements(count):
    """All placements for so many unknowns, in ascending order."""
    found = []
    for levels in itertools.product(range(count + 2), repeat=count):
        inner = {level for level in levels if 1 <= level <= count}
        if inner == set(range(1, len(inner) + 1)):
            found.append(levels)
    return found


def step_grades(count, steps, pieces):
    """All grades for so many unknowns in so many pieces, with values that are so many parts of 1."""
    values = [("in", k, pair(Fraction(j, steps))) for k in range(pieces) for j in range(steps)] + [TOP]
    return list(itertools.product(values, repeat=count))


def added(f, g, times=1):
    return tuple(p + times * q for p, q in zip(f, g))


def first_conditions(levels):
    count = len(levels)
    found = [((1,) + (0,) * count, True)]
    for place, level in enumerate(levels):
        if level <= count:
            unit = tuple(int(k == place + 1) for k in range(count + 1))
            found += [(unit, False), (added((1,) + (0,) * count, unit, -1), True)]
    return found


def question_for(mark, f, g):
    """The list of [Q, result if Q >= 0, result if Q < 0]; the results are forms, None is the top, 0 asks the next."""
    one = (1,) + (0,) * (len(f) - 1)
    zero = (0,) * len(f)
    gf, fg = added(g, f, -1), added(f, g, -1)
    total = added(added(f, g), one, -1)
    return {
        "times": [[total, total, zero]],
        "and": [[gf, f, g]],
        "or": [[gf, g, f]],
        "leads": [[gf, None, added(one, gf)]],
        "same": [[gf, 0, added(one, gf)], [fg, None, added(one, fg)]],
    }[mark]


class Wrong(Exception):
    pass


def need(fits):
    if not fits:
        raise Wrong


def is_nothing(conditions, multiples):
    """Whether multiples show that no values keep the conditions."""
    if type(multiples) is not tuple or len(multiples) != len(conditions):
        return False
    if not all(type(number) is int and number >= 0 for number in multiples):
        return False
    total = [sum(number * form[k] for (form, _), number in zip(conditions, multiples))
             for k in range(len(conditions[0][0]))]
    return not any(total) and any(strict and number for (_, strict), number in zip(conditions, multiples))


class Judge:
    """Goes along a saying in a placement as a tree tells; raises Wrong where the tree is none."""

    def __init__(self, saying, levels):
        self.names = names_of(saying)
        self.levels = levels
        self.words = parts_first(saying)

    def run(self, tree):
        self.along(0, (), first_conditions(self.levels), tree)

    def empty(self, conditions, tree):
        need(type(tree) is tuple)
        return len(tree) == 2 and tree[0] == "empty" and is_nothing(conditions, tree[1])

    def leaf(self, word):
        count = len(self.levels)
        if word[0] == "yes":
            return TOP
        if word[0] == "no":
            return (0, (0,) * (count + 1))
        place = self.names.index(word[1])
        if self.levels[place] == count + 1:
            return TOP
        return (self.levels[place], tuple(int(k == place + 1) for k in range(count + 1)))

    def along(self, at, waiting, conditions, tree):
        while at < len(self.words):
            word = self.words[at]
            at += 1
            zero = (0,) * (len(self.levels) + 1)
            if word[0] in ("unknown", "yes", "no"):
                waiting += (self.leaf(word),)
                continue
            if word[0] == "not":
                mark, rest, a, b = "leads", waiting[:-1], waiting[-1], (0, zero)
            else:
                mark, rest, (a, b) = word[0], waiting[:-2], waiting[-2:]
            if a != TOP and b != TOP and a[0] == b[0]:
                self.ask(question_for(mark, a[1], b[1]), a[0], at, rest, conditions, tree)
                return
            low = lambda r: float("inf") if r == TOP else r[0]
            lesser, greater = (a, b) if low(a) < low(b) else (b, a)
            if mark == "or":
                waiting = rest + (greater,)
            elif mark == "leads":
                waiting = rest + (TOP if low(a) <= low(b) else b,)
            else:
                # Of two that both are at the top, so is what `same` gives; else the lesser one.
                waiting = rest + (lesser,)
        if self.empty(conditions, tree):
            return
        need(tree == TOP and waiting[-1] == TOP)

    def ask(self, questions, piece, at, rest, conditions, tree):
        form, yes, no = questions[0]

        def go_on(result, longer, part):
            if result == 0:
                self.ask(questions[1:], piece, at, rest, longer, part)
            else:
                self.along(at, rest + (TOP if result is None else (piece, result),), longer, part)

        if not any(form[1:]):
            go_on(yes if form[0] >= 0 else no, conditions, tree)
            return
        if self.empty(conditions, tree):
            return
        need(len(tree) == 3 and tree[0] == "ask")
        go_on(yes, conditions + [(form, False)], tree[1])
        go_on(no, conditions + [(tuple(-number for number in form), True)], tree[2])


def holds(saying, value):
    """Whether a value is a chain certificate of a saying."""
    kinds = placements(len(names_of(saying)))
    if type(value) is not tuple or len(value) != len(kinds):
        return False
    try:
        for levels, tree in zip(kinds, value):
            Judge(saying, levels).run(tree)
    except Wrong:
        return False
    return True
