"""Functions over meshes, told back as ladders, and ladders settled over meshes."""

from halftruths.bounds import check_unknowns
from halftruths.errors import TooMany
from halftruths.ladders import ladder_unknowns
from halftruths.meshes import Mesh
from halftruths.rows import Rows, put_all, put_times
from halftruths.settling import numbers_of_rows
from halftruths.values import check_names, fraction

MOST_CUTS = 24


def told_heights(names, cuts, heights):
    """A ladder with the values of the function with these heights over the mesh that the cuts give."""
    if len(cuts) > MOST_CUTS:
        raise TooMany("cuts")
    return told_over(Mesh(names, cuts=cuts), heights)


def told_over(mesh, heights):
    """A ladder with the values of the function with these heights over a mesh.

    It is put together of hats: the hat of a node has the height 1 there and 0 at all other nodes. The hat of a new
    node is the lesser one of those of the ends of the edge that is cut, and is taken from both. So settling the
    ladder over the first mesh makes just the cuts of the mesh.
    """
    mesh.check_heights(heights)
    rows = Rows()
    hats = first_hats(rows, mesh.names)
    for first, second in mesh.cuts():
        new = rows.put("and", hats[first], hats[second])
        hats[first] = rows.without(hats[first], new)
        hats[second] = rows.without(hats[second], new)
        hats.append(new)
    # The sum is never above 1, so `plus` cuts nothing off.
    total = rows.put("no")
    for hat, height in zip(hats, heights):
        if height > 0:
            total = rows.added(total, put_times(rows, hat, height))
    return rows.ladder(total)


def first_hats(rows, names):
    """The list of the rows for the hats of the first mesh.

    The hat of a node is the least one of the values that are 1 there, less the greatest one of the other values.
    """
    numbers = [rows.put("unknown", name) for name in names]
    found = []
    for node in range(1 << len(names)):
        inside = [number for place, number in enumerate(numbers) if node >> place & 1]
        outside = [number for place, number in enumerate(numbers) if not node >> place & 1]
        least = put_all(rows, "and", inside) if inside else rows.put("yes")
        found.append(rows.without(least, put_all(rows, "or", outside)) if outside else least)
    return found


def mesh_with(points, names):
    """A mesh for the names in which each of some points is a node."""
    mesh = Mesh(names)
    for point in points:
        weights = mesh.weights(point)
        while len(weights) > 1:
            # Each such cut makes the sum of the weights less, so that at last the point is one node, taken once.
            mesh.cut(weights[0][0], weights[1][0])
            weights = mesh.weights(point)
    return mesh


def settled_heights(ladder, names):
    """The pair of the cuts and of the heights of the first mesh for the names when a ladder has been settled."""
    check_unknowns(len(names))
    check_names(ladder_unknowns(ladder), names)
    mesh = Mesh(names)
    heights = mesh.settle_ladder(ladder)
    return mesh.cuts(), heights


def ladder_difference(first, second):
    """A point at which two ladders have different values; None if they are alike."""
    firsts = ladder_unknowns(first)
    names = firsts + tuple([name for name in ladder_unknowns(second) if name not in firsts])
    mesh = Mesh(names)
    mesh.settle_ladder(first)
    heights = mesh.settle_ladder(second)
    others = numbers_of_rows(first, names, mesh.nodes())[-1]
    for node, height, other in zip(mesh.nodes(), heights, others):
        if height != other:
            return tuple([fraction(number, node[-1]) for number in node[:-1]])
    return None
