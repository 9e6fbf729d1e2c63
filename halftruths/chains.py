"""What is so in chains: at the points whose values are parts of one whole."""

from halftruths.bounds import check_unknowns
from halftruths.errors import OutOfRange, TooMany
from halftruths.failings import failings_over, point_of_failings
from halftruths.meshes import Mesh
from halftruths.sayings import marks_in, unknowns_of
from halftruths.semigroups import sums_pair

GREATEST_CHAIN = 1000000000
MOST_MARKS = (12, 12, 8, 4)


def failing_chains(first, second):
    """The pair (G, E) of the chains in which the second saying fails the first one."""
    return sums_pair(list(failings_of(first, second)))


def failings_of(first, second):
    """The failings of two sayings."""
    names = unknowns_of((first, second))
    check_unknowns(len(names))
    if marks_in(first) + marks_in(second) > MOST_MARKS[len(names)]:
        raise TooMany("marks")
    mesh = Mesh(names)
    mesh.settle(first)
    heights = mesh.settle(second)
    return failings_over(mesh, mesh.numbers(first), heights)


def check_chain(chain):
    """Raises OutOfRange for an integer that is no chain."""
    if not 1 <= chain <= GREATEST_CHAIN:
        raise OutOfRange(chain)


def fails_in_chain(first, second, chain):
    """Whether the second saying fails the first one in a chain."""
    return failing_point(first, second, chain) is not None


def failing_point(first, second, chain):
    """A point of a chain at which the first saying is 1 and the second one below 1; None if there is none."""
    check_chain(chain)
    return point_of_failings(failings_of(first, second), chain)


def valid_chains(saying):
    """None if a saying is valid in all chains, otherwise the tuple of the chains in which it is valid."""
    return valid_of_pair(failing_chains(("yes",), saying))


def valid_of_pair(pair):
    """What valid_chains tells, for the pair of the failing chains of `yes` and the saying."""
    basis, missing = pair
    return missing if basis else None


def yes_chains(saying):
    """The pair (G, E) of the chains in which a saying can be yes."""
    return failing_chains(saying, ("no",))
