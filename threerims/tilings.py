"""Tilings of the triangle by rhombuses and single cells, and the labels of their edges.

Both ways through a triangle here go from row to row of up cells. An up cell (r, k) has the
left edge (r, k), the right edge (r, k) and the flat edge (r + 1, k); the down cells of the
row stand between the up cells, and have their flat edges in the row above.

A tiling is checked with masks: integers whose bit k belongs to the up cell (r, k) of a row.
All tilings are listed with labels, which are None for a shared edge.
"""

from threerims.arrays import DIRECTIONS, check_size, is_rhombus
from threerims.errors import InvalidPositions, InvalidTiling, LimitExceeded
from threerims.partitions import is_integer

MAX_TILING_SIZE = 5

# The labels of the flat and the right edge of an up cell, by the label of its left edge.
UP_CELLS = {0: ((0, 0), (1, None)), 1: ((1, 1), (None, 0)), None: ((0, 1),)}

# The label of the left edge of a down cell, by the labels of its flat and its right edge.
DOWN_CELLS = {(0, 0): 0, (1, 1): 1, (None, 0): 1, (0, 1): None, (1, None): 0}

# In an integer with a bit for each cell, a row has 16 bits: 8 for its up cells, and then 8 for its down cells.
ROW_BITS = 16

# How far the bit of the down cell of a rhombus stands behind that of its up cell.
DOWN_STEPS = {"flat": 24, "left": 7, "right": 8}


def cells_of(rhombus):
    """Return an integer with the bits of the two cells of the rhombus."""
    direction, row, place = rhombus
    up = ROW_BITS * row + place
    return (1 << up) | (1 << (up + DOWN_STEPS[direction]))


def wrong_index(size, items):
    """Return the index of the first item that cannot be a rhombus of a tiling, or None."""
    taken = 0
    for index, item in enumerate(items):
        if not is_rhombus(item, size):
            return index
        if index > 0 and item <= items[index - 1]:
            return index
        both = cells_of(item)
        if taken & both != 0:
            return index
        taken = taken | both
    return None


def shared_masks(size, items):
    """Return the masks of the shared flat, left and right edges, each a list with one mask for a row."""
    masks = {direction: [0] * size for direction in DIRECTIONS}
    for direction, row, place in items:
        masks[direction][row] = masks[direction][row] | (1 << place)
    return masks["flat"], masks["left"], masks["right"]


def label_masks(shared, top):
    """Return the masks of the flat, the left and the right edges with the label 1, or None if there are no labels.

    They are listed as the masks of the shared edges are. top is the label of the right edge of the first up cell.
    """
    all_flats = []
    all_lefts = []
    all_rights = []
    above = 0
    shared_above = 0
    for row, (flats, lefts, rights) in enumerate(zip(shared[0], shared[1], shared[2])):
        # The flat edge of a "right" rhombus has the label 1, and that of a "left" rhombus the label 0.
        if above & rights != rights or above & (lefts >> 1) != 0:
            return None
        # Each down cell tells the label of its right edge, and of its left edge, which belongs to the next up cell.
        kept = above & ~rights
        right = kept | (lefts >> 1) if row > 0 else top
        left = (kept | shared_above) << 1
        # The first left edge and the last right edge have no down cell: their up cells tell their labels.
        left = left | ((right | flats) & 1)
        right = right | (((left & ~flats) | lefts) & (1 << row))
        # The left and the right label differ in the up cells of "flat" and of "left" rhombuses, and in no others.
        if left & ~right != flats or right & ~left != lefts:
            return None
        above = (left & right) | rights
        shared_above = flats
        all_flats.append(above)
        all_lefts.append(left)
        all_rights.append(right)
    return all_flats, all_lefts, all_rights


def read_tiling(size, value):
    """Return the shared masks and the label masks of a tiling, and raise InvalidTiling if the value is none."""
    if not isinstance(value, tuple) or len(value) != 2 or not isinstance(value[0], tuple):
        raise InvalidTiling(None)
    items, label = value
    index = wrong_index(size, items)
    if index is not None:
        raise InvalidTiling(index)
    shared = shared_masks(size, items)
    if not items:
        if not is_integer(label) or not 0 <= label <= 1:
            raise InvalidTiling("label")
        return shared, label_masks(shared, label)
    labels = label_masks(shared, 0)
    if labels is None:
        labels = label_masks(shared, 1)
    if labels is None:
        raise InvalidTiling("labels")
    if label is not None:
        raise InvalidTiling("label")
    return shared, labels


def check_tiling(size, value):
    """Return None if the value is a tiling of this size, and raise InvalidTiling otherwise."""
    check_size(size)
    read_tiling(size, value)


def is_tiling(size, value):
    """Return whether the value is a tiling of this size."""
    try:
        check_tiling(size, value)
    except InvalidTiling:
        return False
    return True


def edge_labels(size, tiling):
    """Return the pairs (edge, label) for all edges that have a label, in ascending order."""
    check_size(size)
    shared, labels = read_tiling(size, tiling)
    return tuple([
        ((direction, row + down, place), (ones[row] >> place) & 1)
        for direction, down, hidden, ones in zip(DIRECTIONS, (1, 0, 0), shared, labels)
        for row in range(size)
        for place in range(row + 1)
        if (hidden[row] >> place) & 1 == 0
    ])


def border_sets(size, tiling):
    """Return the positions with the label 1 on the first, the second and the third border."""
    check_size(size)
    flats, lefts, rights = read_tiling(size, tiling)[1]
    return (
        tuple([row + 1 for row in range(size) if lefts[row] & 1 == 1]),
        tuple([place + 1 for place in range(size) if (flats[-1] >> place) & 1 == 1]),
        tuple([row + 1 for row in range(size) if (rights[row] >> row) & 1 == 1]),
    )


def fill_row(above, firsts, belows, lasts):
    """Return all ways to fill a row: tuples of the labels (flat, left, right) of its up cells.

    above has the labels of the flat edges in the row above. firsts, belows and lasts tell the labels
    that the first left edge, each of the flat edges below and the last right edge can have.
    """
    found = [((), first) for first in firsts]
    for at, label in enumerate(above):
        found = [
            (cells + ((flat, left, right),), DOWN_CELLS[label, right])
            for cells, left in found
            for flat, right in UP_CELLS[left]
            if (label, right) in DOWN_CELLS and flat in belows[at]
        ]
    return [
        cells + ((flat, left, right),)
        for cells, left in found
        for flat, right in UP_CELLS[left]
        if right in lasts and flat in belows[-1]
    ]


def row_rhombuses(row, cells):
    """Return the "flat", the "left" and the "right" rhombuses of a row with these labels."""
    return [
        tuple([(direction, row, place) for place, labels in enumerate(cells) if labels[at] is None])
        for at, direction in enumerate(DIRECTIONS)
    ]


def grow(parts, row, cells):
    """Return the parts of tilings with a row added to each of them.

    A part lists its "flat", "left" and "right" rhombuses, and the positions of its first and third border.
    """
    flats, lefts, rights = row_rhombuses(row, cells)
    first = (row + 1,) if cells[0][1] == 1 else ()
    last = (row + 1,) if cells[-1][2] == 1 else ()
    return [
        (part[0] + flats, part[1] + lefts, part[2] + rights, part[3] + first, part[4] + last)
        for part in parts
    ]


def find_parts(size, choices):
    """Return the parts of all tilings, in a dict by the labels of the flat edges in the last row.

    choices tells for each border, edge by edge, the labels that the edges can have.
    """
    firsts, seconds, lasts = choices
    found = {(): [((), (), (), (), ())]}
    for row in range(size):
        belows = seconds if row == size - 1 else [(0, 1, None)] * (row + 1)
        longer = {}
        # Parts with the same labels below are continued in the same ways.
        for above, parts in found.items():
            for cells in fill_row(above, firsts[row], belows, lasts[row]):
                below = tuple([labels[0] for labels in cells])
                longer.setdefault(below, []).extend(grow(parts, row, cells))
        found = longer
    return found


def find_tilings(size, choices):
    """Return the pairs of a tiling and its border sets for all tilings with borders of these choices, in order."""
    pairs = []
    for below, parts in find_parts(size, choices).items():
        second = tuple([at + 1 for at, label in enumerate(below) if label == 1])
        for flats, lefts, rights, first, third in parts:
            items = flats + lefts + rights
            tiling = (items, None) if items else ((), below[0])
            pairs.append((tiling, (first, second, third)))
    return sorted(pairs, key=lambda pair: pair[0])


def all_tilings(size):
    """Return the pairs of a tiling and its border sets for all tilings of this size, in order."""
    return find_tilings(size, [[(0, 1)] * size] * 3)


def check_tiling_size(size):
    """Return None if the tilings of this size can be listed."""
    check_size(size)
    if size > MAX_TILING_SIZE:
        raise LimitExceeded(MAX_TILING_SIZE)


def tilings(size):
    """Return the list of all tilings of this size, in ascending order of their rhombuses."""
    check_tiling_size(size)
    return [pair[0] for pair in all_tilings(size)]


def is_position_set(value, size):
    """Return whether the value is an ascending tuple of positions from 1 to size."""
    if not isinstance(value, tuple):
        return False
    last = 0
    for item in value:
        if not is_integer(item) or not last < item <= size:
            return False
        last = item
    return True


def tilings_with(size, i, j, k):
    """Return the list of all tilings of this size with these border sets, in ascending order."""
    check_tiling_size(size)
    choices = []
    for name, value in zip(("i", "j", "k"), (i, j, k)):
        if not is_position_set(value, size):
            raise InvalidPositions(name)
        choices.append([(1,) if at in value else (0,) for at in range(1, size + 1)])
    return [pair[0] for pair in find_tilings(size, choices)]
