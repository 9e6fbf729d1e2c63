"""What is valid in chains of chains, with certificates."""

from halftruths.bounds import check_unknowns
from halftruths.chainwalks import first_values, tree_from, values_with, walk_in_placement
from halftruths.conditions import are_empty
from halftruths.errors import OutOfRange, TooMany
from halftruths.grades import ONE, grade_in
from halftruths.orderlevels import check_meant
from halftruths.orders import order_types
from halftruths.sayings import all_words, marks_in, unknowns_of
from halftruths.values import fraction

MOST_SIGNS = (10, 10, 10, 7)
MOST_STEPS = (8, 8, 8, 3)


def check_chain(saying):
    """Raises an error if a saying has no meaning in rows of pieces, or has too much."""
    check_meant((saying,))
    count = len(unknowns_of((saying,)))
    check_unknowns(count)
    nots = len([word for word in all_words(saying) if word[0] == "not"])
    if marks_in(saying) + nots > MOST_SIGNS[count]:
        raise TooMany("marks")


def chain_valid(saying):
    """Whether a saying is valid in chains of chains."""
    return chain_parting(saying) is None


def chain_parting(saying):
    """Grades, in the row of one more pieces `sum` than unknowns, at which a saying is not at the top.

    None if it is valid in chains of chains.
    """
    check_chain(saying)
    return grades_with(saying, False)


def grades_with(saying, wanted):
    """Grades in such a row at which a saying is at the top, or not, as wanted; None if there are none."""
    names = unknowns_of((saying,))
    for kind in order_types(len(names)):
        point = values_with(walk_in_placement(saying, names, kind), first_values(names), wanted)
        if point is not None:
            return tuple([placed(level, value, len(names)) for level, value in zip(kind, point)])
    return None


def placed(level, value, count):
    """The grade of one of so many unknowns with this level in a placement, and this value in its piece."""
    return ONE if level > count else ("in", level, value)


def chain_certificate(saying):
    """A chain certificate of a saying; None if there is none."""
    check_chain(saying)
    names = unknowns_of((saying,))
    trees = []
    for kind in order_types(len(names)):
        tree = tree_from(walk_in_placement(saying, names, kind), first_values(names))
        if tree is None:
            return None
        trees.append(tree)
    return tuple(trees)


def chain_holds(saying, certificate):
    """Whether a value is a chain certificate of a saying."""
    check_chain(saying)
    names = unknowns_of((saying,))
    kinds = order_types(len(names))
    if not isinstance(certificate, tuple) or len(certificate) != len(kinds):
        return False
    walks = [walk_in_placement(saying, names, kind) for kind in kinds]
    return all([is_tree(walk, tree) for walk, tree in zip(walks, certificate)])


def is_tree(walk, tree):
    """Whether a value is a tree for a place in going along."""
    if not isinstance(tree, tuple):
        return False
    if len(tree) == 2 and tree[0] == "empty":
        return are_empty(walk.conditions, tree[1])
    if walk.question() is None:
        return tree == ONE and walk.is_one()
    if len(tree) != 3 or tree[0] != "ask":
        return False
    return is_tree(walk.answered(True), tree[1]) and is_tree(walk.answered(False), tree[2])


def chain_valid_in(saying, steps):
    """Whether a saying is valid in chains of chains of so many steps."""
    check_chain(saying)
    names = unknowns_of((saying,))
    if not 1 <= steps <= MOST_STEPS[len(names)]:
        raise OutOfRange(steps)
    kinds = ("sum",) * (len(names) + 1)
    values = [fraction(number, steps) for number in range(steps)]
    for kind in order_types(len(names)):
        for grades in grades_of_steps(kind, values):
            if grade_in(saying, kinds, {name: grade for name, grade in zip(names, grades)}) != ONE:
                return False
    return True


def grades_of_steps(kind, values):
    """The list of the tuples of grades of a placement in which all values in pieces are among the values."""
    found = [()]
    for level in kind:
        choices = [ONE] if level > len(kind) else [("in", level, value) for value in values]
        found = [grades + (grade,) for grades in found for grade in choices]
    return found
