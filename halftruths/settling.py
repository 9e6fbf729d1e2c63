"""The numbers of the rows of a ladder at the nodes of a mesh, and cutting edges until the ladder is settled."""

from halftruths.sayings import MARKS
from halftruths.values import number_given


def numbers_of_row(row, earlier, names, nodes):
    """The list of the numbers of a row at some nodes for the names; earlier has those of the earlier rows."""
    if row[0] == "unknown":
        place = names.index(row[1])
        return [node[place] for node in nodes]
    if row[0] == "yes":
        return [node[-1] for node in nodes]
    if row[0] == "no":
        return [0] * len(nodes)
    first = earlier[row[1]]
    if row[0] == "not":
        return [node[-1] - number for node, number in zip(nodes, first)]
    return [number_given(row[0], a, b, node[-1]) for a, b, node in zip(first, earlier[row[2]], nodes)]


def numbers_of_rows(ladder, names, nodes):
    """The list of the lists of the numbers of all rows of a ladder."""
    found = []
    for row in ladder:
        found.append(numbers_of_row(row, found, names, nodes))
    return found


def balances_of_row(row, earlier, nodes):
    """The list of the balances of a row with a mark."""
    first = earlier[row[1]]
    second = earlier[row[2]]
    if row[0] == "plus" or row[0] == "times":
        return [a + b - node[-1] for a, b, node in zip(first, second, nodes)]
    return [a - b for a, b in zip(first, second)]


def open_edge(edges, balances):
    """The open edge that is to be cut first, for the edges of a mesh; None if none is open."""
    if min(balances) >= 0 or max(balances) <= 0:
        return None
    best = None
    for first, second in edges:
        if balances[first] * balances[second] < 0:
            found = (-abs(balances[first] - balances[second]), first, second)
            if best is None or found < best:
                best = found
    return None if best is None else best[1:]


def is_ladder_settled(ladder, names, nodes, edges):
    """Whether no edge is open for a row of a ladder."""
    earlier = numbers_of_rows(ladder, names, nodes)
    for row in ladder:
        if row[0] in MARKS and open_edge(edges, balances_of_row(row, earlier, nodes)) is not None:
            return False
    return True


def settle_rows(mesh, ladder):
    """Settles a ladder over a mesh by cuts; returns the numbers of its last row at the nodes then."""
    found = []
    for row in ladder:
        if row[0] in MARKS:
            _settle_row(mesh, row, found)
        found.append(numbers_of_row(row, found, mesh.names, mesh.nodes()))
    return found[-1]


def _settle_row(mesh, row, earlier):
    """Cuts edges until none is open for a row; the earlier rows are settled, and get their new numbers."""
    balances = balances_of_row(row, earlier, mesh.nodes())
    edge = open_edge(mesh.edges(), balances)
    while edge is not None:
        mesh.cut(edge[0], edge[1])
        # What is straight over the mesh has at the new node the sum of what it has at both ends.
        for at in range(len(earlier)):
            earlier[at].append(earlier[at][edge[0]] + earlier[at][edge[1]])
        balances.append(balances[edge[0]] + balances[edge[1]])
        edge = open_edge(mesh.edges(), balances)
