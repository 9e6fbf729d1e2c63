"""The tree of sayings, its pieces, and the forms that a saying takes."""

from halftruths.bounds import check_bound, check_bound_for
from halftruths.sayings import unknowns_of
from halftruths.values import check_names
from halftruths.walks import ends_of, walk_along


def tree_pieces(sayings, names):
    """The list of the pieces of the tree of a tuple of sayings, for names that contain their unknowns."""
    return [(walk.path, walk.waiting) for walk in ends_of(walk_along(sayings, names))]


def pieces(sayings):
    """The tuple of the pieces of the tree of a tuple of sayings."""
    check_bound(sayings)
    return tuple(tree_pieces(sayings, unknowns_of(sayings)))


def forms_taken(saying, names):
    """The tuple of the forms that a saying takes, for a tuple of names."""
    check_names(unknowns_of((saying,)), names)
    check_bound_for(len(names), (saying,))
    # Cells of pieces have inner points, so a form that the saying has in one is the form of the piece.
    found = {forms[0]: True for _, forms in tree_pieces((saying,), names)}
    return tuple(sorted(list(found)))
