"""The breaks of a saying with at most one unknown."""

from math import gcd

from halftruths.errors import TooMany
from halftruths.sayings import occurrences, unknowns_of
from halftruths.values import fraction

MOST_OCCURRENCES = 40

# A line (p, q, c, m) says that from the place p / q on the value is c + m times the place, up to the next line.
# This one ends each list of lines; no value is taken from it.
END = (1, 1, 0, 0)

# What a mark gives if one part is 0 and if it is 1 everywhere: 0, 1, the other part, or `not` of it.
WITH_CONSTANT = {"plus": ("other", "yes"), "times": ("no", "other"), "and": ("no", "other"), "or": ("other", "yes"),
                 "same": ("not", "other"), "leads": ("yes", "other"), "led": ("not", "yes")}


def breaks_of(saying):
    """The tuple of the breaks of a saying."""
    names = unknowns_of((saying,))
    if len(names) > 1:
        raise TooMany("unknowns")
    if names and occurrences(saying, names[0]) > MOST_OCCURRENCES:
        raise TooMany("occurrences")
    lines = lines_of(saying)
    breaks = [((p, q), fraction(c * q + m * p, q)) for p, q, c, m in lines[:-1]]
    c, m = lines[-2][2:]
    return tuple(breaks) + (((1, 1), (c + m, 1)),)


def lines_of(saying):
    """The list of the lines of a saying in one unknown, no two neighbours on one straight line."""
    kind = saying[0]
    if kind == "unknown":
        return [(0, 1, 0, 1), END]
    if kind == "yes" or kind == "no":
        return flat_lines(1 if kind == "yes" else 0)
    first = lines_of(saying[1])
    if kind == "not":
        return not_lines(first)
    second = lines_of(saying[2])
    if is_flat(first):
        return lines_beside(kind, first[0][2], second)
    if is_flat(second):
        return lines_beside("led" if kind == "leads" else kind, second[0][2], first)
    return lines_given(kind, first, second)


def flat_lines(number):
    """The lines of what is the number 0 or 1 everywhere."""
    return [(0, 1, number, 0), END]


def is_flat(lines):
    """Whether lines are those of what is 0 or 1 everywhere; one line of slope 0 can be no other number."""
    return len(lines) == 2 and lines[0][3] == 0


def not_lines(lines):
    """The lines of not A for those of A."""
    return [(p, q, 1 - c, -m) for p, q, c, m in lines[:-1]] + [END]


def lines_beside(mark, number, other):
    """The lines of a mark beside a part that is 0 or 1 everywhere, for those of the other part.

    Words without an unknown can stand between many words, and cost next to nothing in this way.
    """
    given = WITH_CONSTANT[mark][number]
    if given == "other":
        return other
    return not_lines(other) if given == "not" else flat_lines(1 if given == "yes" else 0)


def lines_given(mark, first, second):
    """The lines of (mark, A, B) for those of A and of B."""
    found = []
    together = mark == "plus" or mark == "times"
    at = 0
    other = 0
    start = (0, 1)
    while start != (1, 1):
        a, b = first[at][2:]
        c, d = second[other][2:]
        end, at, other = next_place(first, at, second, other)
        question = (a + c - 1, b + d) if together else (a - c, b - d)
        put_lines(found, question, start, end, form_pair(mark, (a, b), (c, d), question))
        start = end
    found.append(END)
    return found


def next_place(first, at, second, other):
    """(place, at, other): where the next line of A or of B begins, and the lines that stand from there on."""
    p, q = first[at + 1][:2]
    r, s = second[other + 1][:2]
    sign = p * s - r * q
    if sign < 0:
        return (p, q), at + 1, other
    if sign > 0:
        return (r, s), at, other + 1
    return (p, q), at + 1, other + 1


def form_pair(mark, first, second, question):
    """The forms that a mark takes on the sides `least` and `most`, each the pair (c, m)."""
    if mark == "plus":
        return (1, 0), (question[0] + 1, question[1])
    if mark == "times":
        return question, (0, 0)
    if mark == "and":
        return second, first
    if mark == "or":
        return first, second
    least = (1 - question[0], -question[1])
    return least, (1, 0) if mark == "leads" else (1 + question[0], question[1])


def put_lines(found, question, start, end, forms):
    """Puts the lines between two places, where no other ones begin: on each side of the question its form."""
    number, slope = question
    left = number * start[1] + slope * start[0]
    right = number * end[1] + slope * end[0]
    if left >= 0 and right >= 0:
        put_line(found, start, forms[0])
    elif left <= 0 and right <= 0:
        put_line(found, start, forms[1])
    else:
        common = gcd(number, slope) if slope > 0 else -gcd(number, slope)
        put_line(found, start, forms[0 if left > 0 else 1])
        put_line(found, (-number // common, slope // common), forms[1 if left > 0 else 0])


def put_line(found, start, form):
    """Puts a line behind the others, unless the last one goes on with the same form."""
    if not found or found[-1][2:] != form:
        found.append(start + form)
