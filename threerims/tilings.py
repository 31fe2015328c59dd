"""Tilings of the triangle by rhombuses and single cells, and the labels of their edges.

The shared edge of a rhombus has no label. In a dict of labels its label is None.
"""

from threerims.arrays import check_size, is_rhombus, rhombuses
from threerims.errors import InvalidPositions, InvalidTiling, LimitExceeded
from threerims.partitions import is_integer

MAX_TILING_SIZE = 5

# The labels that the flat, the left and the right edge of one cell can have together.
CELL_LABELS = ((0, 0, 0), (1, 1, 1), (None, 1, 0), (0, None, 1), (1, 0, None))


def shared_edge(rhombus):
    """Return the shared edge of the rhombus."""
    direction, row, place = rhombus
    if direction == "flat":
        return "flat", row + 1, place
    return rhombus


def rhombus_at(edge):
    """Return the rhombus with this shared edge."""
    direction, row, place = edge
    if direction == "flat":
        return "flat", row - 1, place
    return edge


def rhombus_cells(rhombus):
    """Return the up cell and the down cell of the rhombus."""
    direction, row, place = rhombus
    up = ("up", row, place)
    if direction == "flat":
        return up, ("down", row + 1, place)
    if direction == "left":
        return up, ("down", row, place - 1)
    return up, ("down", row, place)


def cells(size):
    """Return the flat, the left and the right edge of every cell, from the top and from the left."""
    found = []
    for row in range(size):
        for place in range(row + 1):
            if place > 0:
                found.append((("flat", row, place - 1), ("left", row, place), ("right", row, place - 1)))
            found.append((("flat", row + 1, place), ("left", row, place), ("right", row, place)))
    return found


def border_edges(size):
    """Return the edges of the first, the second and the third border."""
    return (
        [("left", at, 0) for at in range(size)],
        [("flat", size, at) for at in range(size)],
        [("right", at, at) for at in range(size)],
    )


def cell_fits(cell, chosen, labels, shared):
    """Return whether the edges of the cell can have the chosen labels besides the labels so far."""
    for edge, label in zip(cell, chosen):
        if edge in labels:
            if labels[edge] != label:
                return False
        elif label is None and edge not in shared:
            return False
    return True


def add_labels(cell, chosen, labels):
    """Return the labels with the chosen ones of the cell."""
    longer = {edge: labels[edge] for edge in labels}
    for edge, label in zip(cell, chosen):
        longer[edge] = label
    return longer


def find_labels(size, given, shared):
    """Return all ways to label all edges that agree with the given labels.

    An edge that is not given can be a shared edge only if it is a key of shared.
    """
    found = [given]
    for cell in cells(size):
        found = [
            add_labels(cell, chosen, labels)
            for labels in found
            for chosen in CELL_LABELS
            if cell_fits(cell, chosen, labels, shared)
        ]
    return found


def tiling_of(labels):
    """Return the tiling with these labels."""
    found = sorted([rhombus_at(edge) for edge in labels if labels[edge] is None])
    if found:
        return tuple(found), None
    return (), labels[("left", 0, 0)]


def sets_of(size, labels):
    """Return the border sets of the tiling with these labels."""
    return tuple([
        tuple([at + 1 for at, edge in enumerate(edges) if labels[edge] == 1])
        for edges in border_edges(size)
    ])


def find_tilings(size, given):
    """Return the pairs of a tiling and its border sets for all tilings with the given labels, in order."""
    shared = {shared_edge(rhombus): True for rhombus in rhombuses(size)}
    found = [(tiling_of(labels), sets_of(size, labels)) for labels in find_labels(size, given, shared)]
    return sorted(found, key=lambda pair: pair[0])


def wrong_index(size, items):
    """Return the index of the first item that cannot be a rhombus of a tiling, or None."""
    taken = []
    for index, item in enumerate(items):
        if not is_rhombus(item, size):
            return index
        if index > 0 and item <= items[index - 1]:
            return index
        up, down = rhombus_cells(item)
        if up in taken or down in taken:
            return index
        taken.extend([up, down])
    return None


def read_tiling(size, value):
    """Return the labels of a tiling, and raise InvalidTiling if the value is none."""
    if not isinstance(value, tuple) or len(value) != 2 or not isinstance(value[0], tuple):
        raise InvalidTiling(None)
    items, label = value
    index = wrong_index(size, items)
    if index is not None:
        raise InvalidTiling(index)
    found = find_labels(size, {shared_edge(item): None for item in items}, {})
    if not found:
        raise InvalidTiling("labels")
    if items and label is None:
        return found[0]
    if items or not is_integer(label) or not 0 <= label <= 1:
        raise InvalidTiling("label")
    return {edge: label for edge in found[0]}


def check_tiling(size, value):
    """Return None if the value is a tiling of this size, and raise InvalidTiling otherwise."""
    check_size(size)
    read_tiling(size, value)


def is_tiling(size, value):
    """Return whether the value is a tiling of this size."""
    try:
        check_tiling(size, value)
    except InvalidTiling:
        return False
    return True


def edge_labels(size, tiling):
    """Return the pairs (edge, label) for all edges that have a label, in ascending order."""
    check_size(size)
    labels = read_tiling(size, tiling)
    return tuple(sorted([(edge, label) for edge, label in labels.items() if label is not None]))


def border_sets(size, tiling):
    """Return the positions with the label 1 on the first, the second and the third border."""
    check_size(size)
    return sets_of(size, read_tiling(size, tiling))


def check_tiling_size(size):
    """Return None if the tilings of this size can be listed."""
    check_size(size)
    if size > MAX_TILING_SIZE:
        raise LimitExceeded(MAX_TILING_SIZE)


def tilings(size):
    """Return the list of all tilings of this size, in ascending order of their rhombuses."""
    check_tiling_size(size)
    return [pair[0] for pair in find_tilings(size, {})]


def is_position_set(value, size):
    """Return whether the value is an ascending tuple of positions from 1 to size."""
    if not isinstance(value, tuple):
        return False
    last = 0
    for item in value:
        if not is_integer(item) or not last < item <= size:
            return False
        last = item
    return True


def tilings_with(size, i, j, k):
    """Return the list of all tilings of this size with these border sets, in ascending order."""
    check_tiling_size(size)
    given = {}
    for name, value, edges in zip(("i", "j", "k"), (i, j, k), border_edges(size)):
        if not is_position_set(value, size):
            raise InvalidPositions(name)
        for at, edge in enumerate(edges):
            given[edge] = 1 if at + 1 in value else 0
    return [pair[0] for pair in find_tilings(size, given)]
