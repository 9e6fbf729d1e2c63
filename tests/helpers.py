"""What the tests share: sayings to try, and values, cells and rows reckoned anew with Python's own fractions."""

import itertools
from fractions import Fraction

MARKS = ("plus", "times", "leads", "and", "or", "same")
X = ("unknown", "x")
Y = ("unknown", "y")
Z = ("unknown", "z")
W = ("unknown", "w")
YES = ("yes",)
NO = ("no",)
ZERO = (0, 1)
HALF = (1, 2)
ONE = (1, 1)


def neg(saying):
    return ("not", saying)


def nots(saying, count):
    for _ in range(count):
        saying = ("not", saying)
    return saying


def chained(mark, leaves):
    """The leaves put together by one mark, so with one mark fewer than leaves."""
    saying = leaves[0]
    for leaf in leaves[1:]:
        saying = (mark, saying, leaf)
    return saying


def with_marks(count, leaves):
    """A saying with so many marks in which all the leaves stand, each of them in its turn."""
    return chained("and", [leaves[k % len(leaves)] for k in range(count + 1)])


def random_saying(source, marks, names):
    """Some saying with exactly so many marks."""
    if marks:
        first = source.randrange(marks)
        saying = (source.choice(MARKS), random_saying(source, first, names),
                  random_saying(source, marks - 1 - first, names))
    elif names and source.random() < 0.93:
        saying = ("unknown", source.choice(names))
    else:
        saying = source.choice((YES, NO))
    return neg(saying) if source.random() < 0.2 else saying


def words_of(saying):
    yield saying
    for part in saying[1:]:
        if isinstance(part, tuple):
            yield from words_of(part)


def names_of(*sayings):
    found = []
    for saying in sayings:
        for word in words_of(saying):
            if word[0] == "unknown" and word[1] not in found:
                found.append(word[1])
    return tuple(found)


def given(mark, a, b):
    """The table of what a mark gives, in fractions."""
    return {
        "plus": min(Fraction(1), a + b),
        "times": max(Fraction(0), a + b - 1),
        "leads": min(Fraction(1), 1 - a + b),
        "and": min(a, b),
        "or": max(a, b),
        "same": 1 - (max(a, b) - min(a, b)),
    }[mark]


def worth(saying, names, coordinates):
    """The value of a saying as a Fraction; the coordinates are fractions."""
    kind = saying[0]
    if kind == "unknown":
        return Fraction(coordinates[names.index(saying[1])])
    if kind in ("yes", "no"):
        return Fraction(kind == "yes")
    first = worth(saying[1], names, coordinates)
    if kind == "not":
        return 1 - first
    return given(kind, first, worth(saying[2], names, coordinates))


def fractions_of(point):
    return [Fraction(above, below) for above, below in point]


def pair(number):
    return (number.numerator, number.denominator)


def point_of(coordinates):
    return tuple(pair(Fraction(number)) for number in coordinates)


def worth_at(saying, names, point):
    return worth(saying, names, fractions_of(point))


def grid(count, parts):
    """All points for so many unknowns whose coordinates are whole numbers of parts, as lists of fractions."""
    steps = [Fraction(k, parts) for k in range(parts + 1)]
    return [list(numbers) for numbers in itertools.product(steps, repeat=count)]


def form_worth(form, coordinates):
    return form[0] + sum(c * v for c, v in zip(form[1:], coordinates))


def faces_of(count):
    found = []
    for place in range(count):
        low = [0] * (count + 1)
        low[place + 1] = 1
        high = [1] + [0] * count
        high[place + 1] = -1
        found += [tuple(low), tuple(high)]
    return found


def determinant(rows):
    if not rows:
        return 1
    return sum((-1) ** k * rows[0][k] * determinant([row[:k] + row[k + 1:] for row in rows[1:]])
               for k in range(len(rows)))


def common_zeros(forms, count):
    """All places at which `count` independent ones of the forms are 0, as a set of tuples of fractions."""
    found = set()
    for chosen in itertools.combinations(forms, count):
        below = determinant([list(form[1:]) for form in chosen])
        if below:
            place = []
            for k in range(count):
                rows = [list(form[1:]) for form in chosen]
                for row, form in zip(rows, chosen):
                    row[k] = -form[0]
                place.append(Fraction(determinant(rows), below))
            found.add(tuple(place))
    return found


def vertices(path, count):
    """The corners of a cell: the cell is their hull, and empty if there are none."""
    forms = list(path) + faces_of(count)
    return [place for place in common_zeros(forms, count)
            if all(form_worth(form, place) >= 0 for form in forms)]


def sum_of(path, count, multiples):
    forms = list(path) + faces_of(count)
    assert len(multiples) == len(forms)
    assert all(type(number) is int and number >= 0 for number in multiples)
    total = [0] * (count + 1)
    for form, multiple in zip(forms, multiples):
        total = [t + multiple * number for t, number in zip(total, form)]
    return total


def is_number_from_zero(path, form, k, multiples):
    """Whether k times the form, less the sum of the multiples, is a number from 0 on."""
    assert type(k) is int and k >= 1
    count = len(form) - 1
    rest = [k * number - s for number, s in zip(form, sum_of(path, count, multiples))]
    return rest[0] >= 0 and not any(rest[1:])


def question(mark, a, b):
    if mark in ("plus", "times"):
        return tuple(p + q - (k == 0) for k, (p, q) in enumerate(zip(a, b)))
    return tuple(p - q for p, q in zip(a, b))


def by_side(mark, side, a, b):
    q = question(mark, a, b)
    one = (1,) + (0,) * (len(a) - 1)
    least = side == "least"
    return {
        "plus": one if least else tuple(s + t for s, t in zip(a, b)),
        "times": q if least else (0,) * len(a),
        "leads": tuple(o - s for o, s in zip(one, q)) if least else one,
        "and": b if least else a,
        "or": a if least else b,
        "same": tuple(o - s if least else o + s for o, s in zip(one, q)),
    }[mark]


def minus(form):
    return tuple(-number for number in form)


def tree_of(sayings, names, rows=None):
    """The pieces of the tree, reckoned anew; rows, if there are some, are used up as plain rows, but for the ends.

    At an end the pair (piece, row) is told, the row being None without rows.
    """
    rows = None if rows is None else list(rows)
    count = len(names)
    found = []

    def along(words, waiting, path):
        while words:
            word, words = words[0], words[1:]
            if word[0] == "unknown":
                waiting = waiting + [tuple(int(k > 0 and names[k - 1] == word[1]) for k in range(count + 1))]
            elif word[0] in ("yes", "no"):
                waiting = waiting + [(int(word[0] == "yes"),) + (0,) * count]
            elif word[0] == "not":
                waiting = waiting[:-1] + [tuple(int(k == 0) - number for k, number in enumerate(waiting[-1]))]
            else:
                a, b = waiting[-2:]
                q = question(word[0], a, b)
                signs = [form_worth(q, place) for place in vertices(path, count)]
                row = None if rows is None else rows.pop(0)
                if min(signs) < 0 < max(signs):
                    assert row in (None, ("split",)), row
                    for side, form in (("least", q), ("most", minus(q))):
                        along(words, waiting[:-2] + [by_side(word[0], side, a, b)], path + (form,))
                    return
                side = "least" if min(signs) >= 0 else "most"
                if row is not None:
                    assert row[:2] == ("is", side) and len(row) == 4, row
                    assert is_number_from_zero(path, q if side == "least" else minus(q), row[2], row[3])
                waiting = waiting[:-2] + [by_side(word[0], side, a, b)]
        found.append(((path, tuple(waiting)), None if rows is None else rows.pop(0)))

    along([word for saying in sayings for word in parts_first(saying)], [], ())
    assert not rows
    return found


def parts_first(saying):
    found = []
    for part in saying[1:]:
        if isinstance(part, tuple):
            found += parts_first(part)
    return found + [saying]


def check_plain(sayings, names, rows, goal):
    """Fails if the rows are not plain rows for a goal: the goal's form is made from the tuple of forms."""
    assert type(rows) is tuple
    for (path, forms), row in tree_of(sayings, names, rows):
        assert len(row) == 3 and row[0] == "sum", row
        assert is_number_from_zero(path, goal(forms), row[1], row[2]), (path, row)


def greater(rows, factor):
    """The rows with all their numbers k and multiples so many times as great."""
    return tuple(row if row == ("split",) else
                 row[:-2] + (row[-2] * factor, tuple(number * factor for number in row[-1])) for row in rows)


def less_one(forms):
    return (forms[0][0] - 1,) + forms[0][1:]


def check_raises(test, error, arguments, function, *passed, **named):
    """Fails if the call does not raise just this error; arguments are its attributes, by their names."""
    with test.assertRaises(error) as caught:
        function(*passed, **named)
    test.assertIs(type(caught.exception), error)
    for attribute, expected in arguments.items():
        test.assertEqual(getattr(caught.exception, attribute), expected)


def check_bounded(test, errors, function):
    """Fails if a function of one saying is not bounded; just at the bounds it must raise nothing."""
    many = errors.TooMany
    for leaves, most in (([YES, NO], 12), ([X], 12), ([X, Y], 9), ([X, Y, Z], 7)):
        function(with_marks(most, leaves))
        check_raises(test, many, {"what": "marks"}, function, with_marks(most + 1, leaves))
    check_raises(test, many, {"what": "unknowns"}, function, with_marks(3, [X, Y, Z, W]))
    check_raises(test, many, {"what": "unknowns"}, function, with_marks(30, [X, Y, Z, W]))


def check_bounded_pair(test, errors, function):
    """Fails if a function of two sayings is not bounded by both together."""
    many = errors.TooMany
    for leaves, most in (([YES, NO], 12), ([X], 12), ([X, Y], 9), ([X, Y, Z], 7)):
        for first in (0, 3, most):
            function(with_marks(first, leaves), with_marks(most - first, leaves[::-1]))
        check_raises(test, many, {"what": "marks"}, function, with_marks(3, leaves), with_marks(most - 2, leaves))
        check_raises(test, many, {"what": "marks"}, function, with_marks(most + 1, leaves), NO)
        check_raises(test, many, {"what": "marks"}, function, NO, with_marks(most + 1, leaves))
    check_raises(test, many, {"what": "unknowns"}, function, with_marks(2, [X, Y, Z]), W)
    check_raises(test, many, {"what": "unknowns"}, function, with_marks(20, [X, Y]), with_marks(20, [Z, W]))


def occurrences_of(saying, name):
    return sum(word == ("unknown", name) for word in words_of(saying))
