"""What the tests share: wrong values, sample arrays, and the definitions of DOC.md written a second time.

The definitions here start from cells and edges, and not from the table of rhombuses,
so that they do not repeat the program's own way.
"""

import faulthandler
import functools
import itertools
import math
import sys
import unittest

SIZES = (1, 2, 3, 4, 5, 6)
DIRECTIONS = ("flat", "left", "right")
E = ((0,), (1, 2), (1, 2, 2))
HUGE = 10 ** 45 + 7
THOUSAND_DIGITS = 10 ** 999 + 3
SECONDS = 60


class TestCase(unittest.TestCase):
    """A test that ends the run if it hangs, and that compares values together with their kinds."""

    def setUp(self):
        # A thread outside of Python: a hash or a comparison that never ends cannot be interrupted otherwise.
        faulthandler.dump_traceback_later(SECONDS, exit=True, file=sys.__stderr__)
        self.addCleanup(faulthandler.cancel_dump_traceback_later)

    def assert_same(self, found, expected):
        self.assertEqual(kinds(found), kinds(expected))
        self.assertEqual(found, expected)

    def assert_raises(self, error, fields, call, *args, **named):
        """Check the class of the exception and its fields, which are given as a dict."""
        with self.assertRaises(error) as caught:
            call(*args, **named)
        self.assertTrue(caught.exception.__class__ is error)
        for name, expected in fields.items():
            self.assert_same(getattr(caught.exception, name), expected)

    def assert_raises_with(self, error, field, value, call, *args, **named):
        """Check that the field of the exception is the very object."""
        with self.assertRaises(error) as caught:
            call(*args, **named)
        self.assertTrue(caught.exception.__class__ is error)
        # No assertIs: its message would write out a value that cannot be written out.
        self.assertTrue(getattr(caught.exception, field) is value, "another object in the field")


def kinds(value):
    """Return the classes of a value and of its parts."""
    if isinstance(value, (tuple, list)):
        return (value.__class__, [kinds(part) for part in value])
    return value.__class__


def doubled(part, width=2, times=60):
    """Return a tuple in which the part occurs width ** times times."""
    for _ in range(times):
        part = (part,) * width
    return part


def doubled_list(part, times=60):
    for _ in range(times):
        part = [part, part]
    return part


def nested(part, depth=99):
    for _ in range(depth):
        part = (part,)
    return part


class Plain:
    """An object that is none of the values the program knows."""


def not_integers():
    """Return pairs (label, value) of values of every kind except integers. The values are new each time."""
    return [
        ("True", True),
        ("False", False),
        ("None", None),
        ("empty text", ""),
        ("digit", "1"),
        ("direction", "flat"),
        ("long text", "x" * 20000),
        ("bytes", b"1"),
        ("empty tuple", ()),
        ("tuple of one", (1,)),
        ("pair", (1, 0)),
        ("triple", ("flat", 0, 0)),
        ("empty list", []),
        ("list of one", [1]),
        ("list of two", [1, 0]),
        ("dict", {0: 1}),
        ("set", {1}),
        ("frozen set", frozenset((1,))),
        ("range", range(1)),
        ("object", Plain()),
        ("class", int),
        ("function", doubled),
        ("exception", ValueError(1)),
        ("nested tuple", nested(1)),
        ("doubled integer", doubled(1)),
        ("doubled empty tuple", doubled(())),
        ("doubled list", doubled_list(1)),
        ("tripled", doubled(0, width=3)),
        ("sevenfold", doubled(0, width=7)),
    ]


class Numbers:
    """A fixed sequence of numbers without a visible pattern."""

    def __init__(self, seed):
        self.state = seed * 2654435761 + 12345

    def below(self, bound):
        found, reach = 0, 1
        while reach == 1 or reach < bound:
            self.state = (self.state * 6364136223846793005 + 1442695040888963407) % 2 ** 64
            found, reach = (found << 31) + (self.state >> 33), reach << 31
        return found % bound

    def between(self, low, high):
        return low + self.below(high - low + 1)


def vertices(size):
    return [(r, k) for r in range(size + 1) for k in range(r + 1)]


def edge_ends(edge):
    """Return the start and the end of an edge, by [11]."""
    direction, r, k = edge
    steps = {"left": (1, 0), "flat": (0, 1), "right": (1, 1)}
    return (r, k), (r + steps[direction][0], k + steps[direction][1])


def cell_edges(corners):
    """Return the three edges of the cell with these vertices."""
    found = []
    for r, k in corners:
        for direction in DIRECTIONS:
            if edge_ends((direction, r, k))[1] in corners:
                found.append((direction, r, k))
    return found


def up_cells(size):
    return {(r, k): ((r, k), (r + 1, k), (r + 1, k + 1)) for r in range(size) for k in range(r + 1)}


def down_cells(size):
    return {(r, k): ((r, k), (r, k + 1), (r + 1, k + 1)) for r in range(size) for k in range(r)}


def defined_rhombuses(size):
    """Return a dict from every rhombus to its pair (ends, tips): two cells that share an edge, by [15]."""
    found = {}
    for (r, k), up in up_cells(size).items():
        for down in down_cells(size).values():
            for edge in cell_edges(up):
                if edge in cell_edges(down):
                    ends = edge_ends(edge)
                    tips = tuple(sorted(set(up) ^ set(down)))
                    found[(edge[0], r, k)] = (tuple(sorted(ends)), tips)
    return found


RHOMBUSES = {size: defined_rhombuses(size) for size in SIZES}


def defined_slacks(array):
    """Return a dict from every rhombus of an array to its slack, by [16]."""
    found = {}
    for rhombus, (ends, tips) in RHOMBUSES[len(array) - 1].items():
        found[rhombus] = sum(array[r][k] for r, k in ends) - sum(array[r][k] for r, k in tips)
    return found


def defined_concave(array):
    return all(amount >= 0 for amount in defined_slacks(array).values())


def difference(array, edge):
    (r, k), (r2, k2) = edge_ends(edge)
    return array[r2][k2] - array[r][k]


def defined_borders(array):
    """Return the borders of an array, by [14]."""
    size = len(array) - 1
    return (
        tuple(difference(array, ("left", at, 0)) for at in range(size)),
        tuple(difference(array, ("flat", size, at)) for at in range(size)),
        tuple(difference(array, ("right", at, at)) for at in range(size)),
    )


def backwards(border):
    """Return the negated entries in reverse order, for any tuple of integers."""
    return tuple(-item for item in reversed(border))


def make(size, function):
    """Return the array with these entries, lowered so that the entry at (0, 0) is 0."""
    low = function(0, 0)
    return tuple(tuple(function(r, k) - low for k in range(r + 1)) for r in range(size + 1))


def bowl(size):
    """Return an array in which every slack is 1."""
    return make(size, lambda r, k: -sum(x * (x - 1) // 2 for x in (r, k, r - k)))


def dented(size, rhombus):
    """Return an array in which this rhombus, and no other, has a negative slack."""
    (start, end), tips = RHOMBUSES[size][rhombus]
    along = (end[0] - start[0], end[1] - start[1])
    aside = (tips[0][0] - start[0], tips[0][1] - start[1])
    turn = along[0] * aside[1] - along[1] * aside[0]

    def depth(r, k):
        r, k = r - start[0], k - start[1]
        far = (r * aside[1] - k * aside[0]) * turn
        high = (along[0] * k - along[1] * r) * turn
        return min(2 * far + high, 2 - 2 * far - high, abs(high), 2 - abs(high))

    return make(size, depth)


def some_array(numbers, size, bound=9):
    """Return an array that is concave only by chance."""
    return make(size, lambda r, k: numbers.between(-bound, bound) if r else 0)


def bent(numbers, length):
    """Return the values of a function at 0 to length whose differences are weakly decreasing."""
    step = numbers.between(-6, 6)
    values = [0]
    for _ in range(length):
        values.append(values[-1] + step)
        step -= numbers.below(3)
    return values


def concave_array(numbers, size, moves=60):
    """Return a concave array: a sum of bent functions, with entries changed as long as it stays concave."""
    across, down, aside = bent(numbers, size), bent(numbers, size), bent(numbers, size)
    rows = [list(row) for row in make(size, lambda r, k: across[k] + down[r] + aside[r - k])]
    for _ in range(moves):
        r, k = vertices(size)[1 + numbers.below(len(vertices(size)) - 1)]
        change = numbers.between(-2, 2)
        rows[r][k] += change
        if not defined_concave(rows):
            rows[r][k] -= change
    return tuple(tuple(row) for row in rows)


def concave_samples(size, many=12):
    numbers = Numbers(100 + size)
    return [concave_array(numbers, size) for _ in range(many)] + [bowl(size), make(size, lambda r, k: 0)]


def other_samples(size, many=12):
    """Return arrays that are not concave; there is none of size 1."""
    if size == 1:
        return []
    numbers = Numbers(200 + size)
    found = [some_array(numbers, size) for _ in range(many)]
    found = [array for array in found if not defined_concave(array)]
    return found + [dented(size, rhombus) for rhombus in sorted(RHOMBUSES[size])]


def big_samples(size):
    """Return two concave arrays and an array that is not, with entries of 46 and of 1,000 digits."""
    second = make(size, lambda r, k: THOUSAND_DIGITS * r - (THOUSAND_DIGITS - 1) * k)
    first = tuple(tuple(item * HUGE for item in row) for row in bowl(size))
    third = make(size, lambda r, k: HUGE * r * r + k * k)
    return [first, second, third]


def samples(size):
    """Return arrays of this size, concave and not concave."""
    return concave_samples(size) + other_samples(size) + big_samples(size)


def wrong_partitions():
    """Return triples (label, value, position) for values that are not partitions."""
    found = [("number", 0, None), ("huge number", HUGE, None)]
    found.extend((label, value, None) for label, value in not_integers() if not isinstance(value, tuple))
    found.extend([
        ("empty", (), None),
        ("seven", (7, 6, 5, 4, 3, 2, 1), None),
        ("seven equal", (0,) * 7, None),
        ("seven wrong", (True,) * 7, None),
        ("sevenfold", doubled(0, width=7), None),
        ("many", (0,) * 1000, None),
        ("list", [2, 1], None),
        ("doubled", doubled(1), 0),
        ("tripled", doubled(1, width=3), 0),
        ("nested", nested(1), 0),
        ("ascending", (2, 3), 1),
        ("ascending below 0", (-2, -1), 1),
        ("huge ascending", (HUGE, HUGE + 1), 1),
        ("longest ascending", (-THOUSAND_DIGITS, THOUSAND_DIGITS), 1),
        ("first of two", (1, 2, 3), 1),
        ("down and up", (3, 1, 2), 2),
        ("up and down", (1, 3, 2), 1),
        ("last", (5, 4, 3, 2, 1, 2), 5),
        ("wrong item before ascending items", (True, 1, 5), 0),
        ("ascending items before wrong item", (1, 5, True), 1),
        ("equal to the item before", (1, True), 1),
        ("equal to 0", (0, False), 1),
    ])
    for size in SIZES:
        for position in range(size):
            steps = tuple(range(size, 0, -1))
            for label, value in not_integers():
                found.append((label, steps[:position] + (value,) + steps[position + 1:], position))
    return found


def replaced(array, row, value):
    return array[:row] + (value,) + array[row + 1:]


def wrong_arrays():
    """Return triples (label, value, row) for values that are not arrays."""
    found = [("number", 0, None), ("huge number", HUGE, None)]
    found.extend((label, value, None) for label, value in not_integers() if not isinstance(value, tuple))
    found.extend([
        ("no rows", (), None),
        ("one row", ((0,),), None),
        ("size 7", make(7, lambda r, k: r + k), None),
        ("eight wrong rows", (None,) * 8, None),
        ("many rows", ((0,),) * 1000, None),
        ("list", [(0,), (1, 2)], None),
        ("list of lists", [[0], [1, 2]], None),
        ("tuple of lists", ([0], [1, 2]), 0),
        ("partition", (3, 2, 1), 0),
        ("doubled", doubled(1), 0),
        ("doubled empty tuple", doubled(()), 0),
        ("tripled", doubled(0, width=3), 0),
        ("nested", (nested(0), (1, 2)), 0),
        ("upside down", ((1, 2), (0,)), 0),
        ("two wrong rows", ((0,), (1,), (2,)), 1),
        ("wrong row 0 first", ((1,), (1,), (2,)), 0),
        ("wrong entry before wrong row", ((0,), (1, None), ()), 1),
        ("wrong row before wrong entry", ((0,), (1, 2, 3), (None,) * 3), 1),
    ])
    for size in SIZES:
        array = make(size, lambda r, k: 7 * r - k * k)
        for wrong in ((1,), (-1,), (HUGE,), (-THOUSAND_DIGITS,), (True,), (False,), (), (0, 0), [0], 0, None):
            found.append(("row 0", replaced(array, 0, wrong), 0))
        for row in range(size + 1):
            for wrong in (array[row][1:], array[row] + (0,), list(array[row]), set(array[row]), str(row), row, None,
                          (array[row],), doubled(0), Plain()):
                found.append(("row " + str(row), replaced(array, row, wrong), row))
        for row, place in vertices(size):
            for label, value in not_integers():
                found.append((label, replaced(array, row, replaced(array[row], place, value)), row))
    return found


def wrong_rhombuses(size):
    """Return pairs (label, value) for values that are not rhombuses of a triangle of this size."""
    found = [(label, value) for label, value in not_integers() if label != "triple"]
    found.extend(("number", value) for value in (0, 1, HUGE))
    for direction, r, k in itertools.product(DIRECTIONS, range(-2, size + 3), range(-2, size + 3)):
        if (direction, r, k) not in RHOMBUSES[size]:
            found.append(("outside", (direction, r, k)))
    for direction, r, k in (("flat", 0, 0), ("left", 1, 1), ("right", 1, 0)):
        found.extend((label, (value, r, k)) for label, value in not_integers() if label != "direction")
        found.extend((label, (direction, value, k)) for label, value in not_integers())
        found.extend((label, (direction, r, value)) for label, value in not_integers())
        for other in ("", "up", "down", direction.upper(), direction.title(), direction + " ", direction[:-1]):
            found.append(("direction " + other, (other, r, k)))
        found.extend([
            ("bytes", (direction.encode(), r, k)),
            ("list", [direction, r, k]),
            ("inner list", (direction, [r, k])),
            ("pair", (direction, (r, k))),
            ("longer", (direction, r, k, 0)),
            ("shorter", (direction, r)),
            ("turned", (r, k, direction)),
            ("triple in a tuple", ((direction, r, k),)),
        ])
        for big in (HUGE, -HUGE, THOUSAND_DIGITS, -THOUSAND_DIGITS):
            found.extend([("far", (direction, big, k)), ("far", (direction, r, big)), ("far", (direction, big, big))])
    return found


def partitions_from(size, low, high):
    """Return all partitions of this size with entries from low to high, ascending."""
    return sorted(each[::-1] for each in itertools.combinations_with_replacement(range(low, high + 1), size))


def some_partition(numbers, size, spread):
    """Return a partition of this spread at most."""
    return tuple(sorted((numbers.between(0, spread) for _ in range(size)), reverse=True))


def raised(partition, amount):
    return tuple(item + amount for item in partition)


def multiple(value, factor):
    """Return a partition or an array with every entry multiplied by the factor."""
    if isinstance(value, tuple):
        return tuple(multiple(part, factor) for part in value)
    return value * factor


def plus(first, second):
    """Return the sums of the entries of two partitions or arrays of one size."""
    if isinstance(first, tuple):
        return tuple(plus(one, two) for one, two in zip(first, second))
    return first + second


def tried_array(a, b, c, inner):
    """Return the array with these borders and a dict of inner entries, for sums that agree."""
    size = len(a)
    entries = dict(inner)
    for at in range(size + 1):
        entries[at, 0] = sum(a[:at])
        entries[at, at] = sum(c[:at])
    for at in range(size + 1):
        entries[size, at] = sum(a) + sum(b[:at])
    return tuple(tuple(entries[r, k] for k in range(r + 1)) for r in range(size + 1))


@functools.lru_cache(maxsize=None)
def tried_solutions(a, b, c):
    """Return all solutions, by [30]: every entry between the limits that [20] gives is tried."""
    size = len(a)
    if sum(c) != sum(a) + sum(b):
        return []
    inner = [(r, k) for r, k in vertices(size) if 0 < k < r < size]
    ranges = [range(sum(a[:r]) + k * b[-1], sum(a[:r]) + k * b[0] + 1) for r, k in inner]
    arrays = [tried_array(a, b, c, zip(inner, chosen)) for chosen in itertools.product(*ranges)]
    return sorted(array for array in arrays if defined_concave(array))


def thirds(a, b, beyond=1):
    """Return partitions whose sum is the sum of a and b, also some that are too spread for a solution."""
    found = partitions_from(len(a), a[-1] + b[-1] - beyond, a[0] + b[0] + beyond)
    return [c for c in found if sum(c) == sum(a) + sum(b)]


# Triples with several solutions, which are rare among triples that are taken without a choice.
MANY = {
    1: (),
    2: (),
    3: (((2, 1, 0), (2, 1, 0), (3, 2, 1)), ((6, 3, 0), (5, 2, 0), (8, 5, 3)), ((20, 10, 0), (20, 10, 0), (29, 21, 10))),
    4: (
        ((3, 2, 1, 0), (3, 2, 1, 0), (5, 4, 2, 1)),
        ((3, 2, 1, 0), (3, 2, 1, 0), (4, 3, 3, 2)),
        ((3, 1, 1, 0), (3, 2, 1, 0), (5, 3, 2, 1)),
        ((2, 1, 0, 0), (3, 2, 0, 0), (4, 3, 1, 0)),
        ((4, 2, 1, 0), (3, 2, 1, 0), (6, 4, 2, 1)),
        ((4, 2, 1, -2), (3, -2, -3, -4), (5, 0, -1, -5)),
    ),
}


@functools.lru_cache(maxsize=None)
def agreeing_triples(size):
    """Return triples of partitions of this size, 1 to 4, whose sums agree: with no, one and many solutions."""
    numbers = Numbers(300 + size)
    found = list(MANY[size])
    for a, b in itertools.product(partitions_from(size, 0, (4, 3, 2, 1)[size - 1]), repeat=2):
        found.extend((a, b, c) for c in thirds(a, b))
    for _ in range((10, 40, 40, 12)[size - 1]):
        spread = (20, 20, 12, 4)[size - 1]
        a, b = some_partition(numbers, size, spread), some_partition(numbers, size, spread)
        a, b = raised(a, numbers.between(-30, 30)), raised(b, numbers.between(-30, 30))
        near = [c for c in thirds(a, b) if c[0] - c[-1] <= 20]
        found.extend((a, b, near[numbers.below(len(near))]) for _ in range(5) if near)
    for x, y in ((HUGE, -3 * HUGE), (-THOUSAND_DIGITS, HUGE), (THOUSAND_DIGITS, THOUSAND_DIGITS)):
        for a, b, c in found[:3] + found[-1:]:
            found.append((raised(a, x), raised(b, y), raised(c, x + y)))
    return found


def differing_triples(size):
    """Return triples of partitions whose sums do not agree."""
    found = []
    for a, b, c in agreeing_triples(size)[::7]:
        found.extend([(a, b, raised(c, 1)), (a, raised(b, -2), c), (a, raised(b, THOUSAND_DIGITS), c)])
        if c[0] - c[-1] < 20:
            found.append((a, b, c[:-1] + (c[-1] - 1,)))
    return found


def all_edges(size):
    """Return the edges of the triangle, ascending, by [11]."""
    inside = set(vertices(size))
    starts = itertools.product(DIRECTIONS, range(size + 1), range(size + 1))
    return sorted(edge for edge in starts if set(edge_ends(edge)) <= inside)


def all_cells(size):
    """Return the corners of every cell."""
    return [tuple(sorted(corners)) for cells in (up_cells(size), down_cells(size)) for corners in cells.values()]


def parts(rhombus):
    """Return the corners of the two cells of the rhombus."""
    ends, tips = RHOMBUSES[6][rhombus]
    return [tuple(sorted(ends + (tip,))) for tip in tips]


def shared(rhombus):
    """Return the shared edge of the rhombus."""
    ends = RHOMBUSES[6][rhombus][0]
    return next(edge for edge in itertools.product(DIRECTIONS, *zip(*ends[:1])) if edge_ends(edge)[1] == ends[1])


# The labels that [17] gives the edges of a rhombus that are not shared.
RHOMBUS_LABELS = {
    "flat": {"left": 1, "right": 0},
    "left": {"right": 1, "flat": 0},
    "right": {"flat": 1, "left": 0},
}


def defined_labels(size, chosen, label=None):
    """Return a dict of the labels, by [17], or None if there are none; without a rhombus all have the given label."""
    if not chosen:
        return {edge: label for edge in all_edges(size)}
    labels = {}
    singles = [cell_edges(cell) for cell in all_cells(size) if not any(cell in parts(each) for each in chosen)]
    for rhombus in chosen:
        for cell in parts(rhombus):
            for edge in set(cell_edges(cell)) - {shared(rhombus)}:
                asked = RHOMBUS_LABELS[rhombus[0]][edge[0]]
                if labels.setdefault(edge, asked) != asked:
                    return None
    grown = -1
    while grown != len(labels):
        grown = len(labels)
        for cell in singles:
            known = {labels[edge] for edge in cell if edge in labels}
            if len(known) > 1:
                return None
            labels.update((edge, value) for edge in cell for value in known)
    return labels


@functools.lru_cache(maxsize=None)
def separate_rhombuses(size):
    """Return all ascending tuples of rhombuses of which no two share a cell."""
    found = [()]
    for rhombus in sorted(RHOMBUSES[size]):
        cells = set(parts(rhombus))
        found += [each + (rhombus,) for each in found if not any(cells & set(parts(other)) for other in each)]
    return sorted(found)


@functools.lru_cache(maxsize=None)
def defined_tilings(size):
    """Return a dict from every tiling to its labels, by [17], in the order that DOC.md asks of tilings(size)."""
    found = {((), label): defined_labels(size, (), label) for label in (0, 1)}
    for chosen in separate_rhombuses(size)[1:]:
        labels = defined_labels(size, chosen)
        if labels is not None:
            found[chosen, None] = labels
    return found


def defined_sets(size, labels):
    """Return the border sets of a tiling with these labels, by [18]."""
    borders = (
        [("left", at, 0) for at in range(size)],
        [("flat", size, at) for at in range(size)],
        [("right", at, at) for at in range(size)],
    )
    return tuple(tuple(at for at, edge in enumerate(edges, 1) if labels[edge] == 1) for edges in borders)


def defined_gap(a, b, c, sets):
    """Return the gap of a tiling with these border sets, by [40]."""
    total = 0
    for sign, partition, positions in zip((1, 1, -1), (a, b, c), sets):
        total += sum(sign * partition[position - 1] for position in positions)
    return total


# Some tilings of size 6; the first two have the same border sets.
TILINGS_OF_SIZE_6 = (
    ((("flat", 0, 0), ("flat", 2, 0), ("flat", 4, 3), ("left", 3, 3), ("left", 4, 1), ("left", 5, 5),
      ("right", 2, 1), ("right", 5, 0), ("right", 5, 2)), None),
    ((("flat", 0, 0), ("flat", 2, 2), ("flat", 4, 1), ("left", 2, 1), ("left", 5, 3), ("left", 5, 5),
      ("right", 3, 0), ("right", 4, 3), ("right", 5, 0)), None),
    ((("flat", 2, 0), ("flat", 3, 1), ("flat", 4, 2), ("left", 5, 4), ("left", 5, 5)), None),
    ((("flat", 3, 1), ("flat", 4, 1), ("left", 1, 1), ("left", 4, 3), ("left", 4, 4), ("left", 5, 4),
      ("left", 5, 5), ("right", 2, 0), ("right", 5, 0)), None),
    ((("left", 5, 3), ("left", 5, 4), ("left", 5, 5), ("right", 2, 0), ("right", 2, 1), ("right", 3, 0),
      ("right", 3, 1), ("right", 4, 0), ("right", 4, 1)), None),
    ((), 0),
    ((), 1),
)


def known_tilings(size):
    """Return tilings of this size that do not come from the program: all up to size 4, and some of size 6."""
    return TILINGS_OF_SIZE_6 if size == 6 else tuple(defined_tilings(size))


def is_known_rhombus(value, size):
    # What is looked up in a dict is hashed, and a value that cannot be visited cannot be hashed.
    if not isinstance(value, tuple) or [part.__class__ for part in value] != [str, int, int]:
        return False
    return value in RHOMBUSES[size]


def wrong_item(size, items):
    """Return the index that InvalidTiling names, or None."""
    for index, item in enumerate(items):
        before = items[:index]
        if not is_known_rhombus(item, size) or any(item <= other for other in before):
            return index
        if any(set(parts(item)) & set(parts(other)) for other in before):
            return index
    return None


def tiling_fault(size, value):
    """Return a list with the field of InvalidTiling for this value; it is empty for a tiling."""
    if not isinstance(value, tuple) or len(value) != 2 or not isinstance(value[0], tuple):
        return [None]
    items, label = value
    index = wrong_item(size, items)
    if index is not None:
        return [index]
    if defined_labels(size, items, 0) is None:
        return ["labels"]
    if items:
        return [] if label is None else ["label"]
    return [] if label.__class__ is int and label in (0, 1) else ["label"]


def changed_tilings(size, tiling):
    """Return the tiling with one change, in every way; a few of the results are tilings."""
    items, label = tiling
    found = []
    for at in range(len(items)):
        rest = items[:at] + items[at + 1:]
        found.extend([rest, items[:at] + items[at:at + 1] * 2 + items[at + 1:], items + (items[at],)])
        found.extend(rest[:to] + (items[at],) + rest[to:] for to in range(len(items)) if to != at)
        direction, r, k = items[at]
        moved = [(direction, r + 1, k), (direction, r - 1, k), (direction, r, k + 1), (direction, r, k - 1)]
        for other in sorted(RHOMBUSES[size]) + moved + [(direction, size, size), (direction, True, k), list(items[at])]:
            found.append(items[:at] + (other,) + items[at + 1:])
    for other in sorted(RHOMBUSES[min(size + 1, 6)]):
        found.extend([items + (other,), (other,) + items])
        if other not in items:
            found.append(tuple(sorted(items + (other,))))
    found.append(items[::-1])
    labels = [other for other in (None, 0, 1, 2, -1, HUGE, "0", "", (), (0,), [1], b"1") if other is not label]
    labels.extend([True, False, doubled(0), doubled_list(1)])
    changed = [(items, other) for other in labels]
    return changed + [(each, each_label) for each in found if each != items for each_label in (label, 0, 2)]


def wrong_tilings(size):
    """Return pairs (value, field) for values that are not tilings, most of them of a wrong form."""
    good = ((("flat", 0, 0),), None) if size > 1 else ((), 0)
    values = [value for _, value in not_integers()] + [0, 1, HUGE, good + (None,), good[:1], list(good), good[::-1]]
    values += [(value, None) for _, value in not_integers()] + [(value, 0) for _, value in not_integers()]
    values += [((value,), None) for _, value in wrong_rhombuses(size)[::5]]
    values += [(good[0] + (value,), None) for _, value in wrong_rhombuses(size)[::7]]
    values += [(list(good[0]), good[1]), (good[0], [good[1]]), (good,), (good, good), ((good[0],), good[1])]
    values += [(good[0], value) for _, value in not_integers()] + [((), value) for _, value in not_integers()]
    values += [((), 2), ((), -1), ((), HUGE), ((), None), ((("left", size, 1),), None), (tuple(RHOMBUSES[size]), None)]
    found = [(value, tiling_fault(size, value)) for value in values]
    return [(value, fault[0]) for value, fault in found if fault]


LIMIT = 10 ** 60
PRIMES = (2, 3, 5, 7, 11, 13, 17, 19, 23, 29, 31, 37, 41, 43, 47, 53, 59, 61, 67, 71, 73, 79, 83, 89, 97)
BOUNDS = (1, 2, 9, 1000, LIMIT)


def greatest(matrix):
    return max(abs(item) for line in matrix for item in line)


def some_matrix(numbers, size, bound):
    return tuple(tuple(numbers.between(-bound, bound) for _ in range(size)) for _ in range(size))


def sparse_matrix(numbers, size):
    """Return a matrix in which most entries are 0, so that pivots are missing."""
    return tuple(tuple(max(0, numbers.below(7) - 4) * (1 - 2 * numbers.below(2)) for _ in range(size))
                 for _ in range(size))


def sample_matrices(size):
    numbers = Numbers(600 + size)
    found = [some_matrix(numbers, size, bound) for bound in BOUNDS for _ in range(3)]
    found += [sparse_matrix(numbers, size) for _ in range(25)]
    found += [((0,) * size,) * size, ((1,) * size,) * size, ((LIMIT,) * size,) * size, ((-LIMIT,) * size,) * size]
    # Two equal lines, a line that is the sum of two, and lines in the reverse order.
    found += [replaced(each, 0, each[-1]) for each in found[:4]]
    if size > 2:
        found += [replaced(each, 1, tuple(x + y for x, y in zip(each[0], each[2]))) for each in found[:9]]
    found.append(tuple(tuple(int(line + column == size - 1) for column in range(size)) for line in range(size)))
    found.append(tuple(tuple(LIMIT * int(line == column) for column in range(size)) for line in range(size)))
    return [matrix for matrix in found if greatest(matrix) <= LIMIT]


def sign_of(order):
    exchanges = sum(one > two for one, two in itertools.combinations(order, 2))
    return -1 if exchanges % 2 else 1


def permuted_determinant(square):
    """Return the determinant as a sum over all permutations."""
    size = len(square)
    orders = itertools.permutations(range(size))
    return sum(sign_of(order) * math.prod(square[line][order[line]] for line in range(size)) for order in orders)


def permuted_minor(matrix, lines, columns):
    return permuted_determinant([[matrix[line][column] for column in columns] for line in lines])


def defined_product(left, right):
    columns = list(zip(*right))
    return tuple(tuple(sum(map(lambda x, y: x * y, line, column)) for column in columns) for line in left)


def choices(size):
    """Return all nonempty ascending tuples of indices."""
    return [each for many in range(1, size + 1) for each in itertools.combinations(range(size), many)]


def wrong_matrices():
    """Return values that are not matrices."""
    found = [value for _, value in not_integers()] + [0, 1, HUGE]
    found += [((),), ((), ()), (1, 2), ((1,), (2,)), ((1, 2),), ((1, 2), (3,)), ((1,), (2, 3)), ((1, 2, 3), (4, 5, 6))]
    found += [((1, 2), (3, 4), (5, 6)), [(1, 2), (3, 4)], ([1, 2], [3, 4]), ((1, 2), [3, 4]), [[1]], ([1],), (((1,),),)]
    found += [((1,) * 7,) * 7, ((0,),) * 7, ((),) * 7, nested(1, 3), doubled(0), (doubled(0), doubled(0)), "ab"]
    for size in SIZES:
        good = tuple(tuple(range(line, line + size)) for line in range(size))
        for at in range(size):
            line = good[at]
            for wrong in (line[1:], line + (0,), list(line), set(line), at, None, "12", doubled(0), Plain()):
                found.append(replaced(good, at, wrong))
            for wrong in (LIMIT + 1, -LIMIT - 1, THOUSAND_DIGITS, -THOUSAND_DIGITS):
                found.append(replaced(good, at, replaced(good[at], size - 1 - at, wrong)))
            for _, wrong in not_integers():
                found.append(replaced(good, at, replaced(good[at], at, wrong)))
    return found


def wrong_primes():
    """Return values that are not primes from 2 to 97."""
    return [value for _, value in not_integers()] + [0, 1, -2, -3, 4, 9, 91, 95, 96, 98, 101, HUGE, -HUGE, THOUSAND_DIGITS]


def wrong_nonnegatives():
    """Return triples (label, value, position) for values that are not nonnegative partitions."""
    return wrong_partitions() + [
        ("negative", (-1,), 0),
        ("very negative", (-THOUSAND_DIGITS,), 0),
        ("last negative", (3, -1), 1),
        ("two negative", (0, -1, -2), 1),
        ("all negative", (-1, -1, -1, -1, -1, -1), 0),
        ("sixth negative", (HUGE, 4, 3, 2, 0, -HUGE), 5),
        ("negative before an ascending entry", (-1, 3), 1),
        ("negative before a wrong item", (0, -1, None), 2),
        ("negative before too many items", (0, 0, 0, 0, 0, 0, -1), None),
    ]


def order_by_powers(value, prime):
    """Return the greatest e such that prime ** e divides the value, which is not 0."""
    found = 0
    while value % prime ** (found + 1) == 0:
        found += 1
    return found


def all_minors(lines):
    """Return a dict from pairs (lines, columns) to minors, each a sum over the entries of its first line."""
    found = {((), ()): 1}
    for many in range(1, len(lines) + 1):
        for rows in itertools.combinations(range(len(lines)), many):
            for columns in itertools.combinations(range(len(lines[0])), many):
                found[rows, columns] = sum(
                    (-1) ** at * lines[rows[0]][column] * found[rows[1:], columns[:at] + columns[at + 1:]]
                    for at, column in enumerate(columns)
                )
    return found


def defined_orders(lines, prime):
    """Return d(1), ..., d(n), by [52]."""
    minors = all_minors(lines)
    return tuple(
        min(order_by_powers(value, prime) for (rows, _), value in minors.items() if len(rows) == many and value)
        for many in range(1, len(lines) + 1)
    )


def defined_exponents(lines, prime):
    """Return the exponents, by [52]."""
    orders = (0,) + defined_orders(lines, prime)
    return tuple(sorted((after - before for before, after in zip(orders, orders[1:])), reverse=True))


def unit_matrix(numbers, size, bound=2):
    """Return a matrix whose determinant is 1 or -1."""
    lines = [[int(line == column) for column in range(size)] for line in range(size)]
    for _ in range(2 * size if size > 1 else 0):
        one, two = numbers.below(size), numbers.below(size - 1)
        two += two >= one
        factor = numbers.between(-bound, bound)
        lines[one] = [x + factor * y for x, y in zip(lines[one], lines[two])]
    return tuple(tuple(line) for line in lines)


def matrix_of_exponents(numbers, partition, prime):
    """Return a matrix with these exponents."""
    size = len(partition)
    powers = tuple(tuple(prime ** partition[line] * (line == column) for column in range(size)) for line in range(size))
    return defined_product(defined_product(unit_matrix(numbers, size), powers), unit_matrix(numbers, size))


@functools.lru_cache(maxsize=None)
def regular_matrices(size):
    """Return matrices whose determinant is not 0, many of them with exponents other than 0 for 2, 3, 5 or 97."""
    numbers = Numbers(700 + size)
    found = [matrix for matrix in sample_matrices(size) if permuted_determinant(matrix)]
    for prime in (2, 3, 5, 97):
        for spread in (1, 3, 5):
            found.append(matrix_of_exponents(numbers, some_partition(numbers, size, spread), prime))
    for _ in range(6):
        lines = some_matrix(numbers, size, 6)
        found.append(tuple(tuple(item * 2 ** numbers.below(4) * 3 ** numbers.below(3) for item in line) for line in lines))
    # Ones beside a diagonal of powers: all exponents but the first are 0.
    found.append(tuple(tuple(2 ** 20 * (line == column) + (column == line + 1) for column in range(size))
                       for line in range(size)))
    return [matrix for matrix in found if permuted_determinant(matrix) and greatest(matrix) <= LIMIT]


def singular_matrices(size):
    """Return matrices whose determinant is 0."""
    return [matrix for matrix in sample_matrices(size) if not permuted_determinant(matrix)]


def entries_of(tableau, i, j):
    """Return k(i, j) of [54]."""
    return tableau[j - 1][i - 1]


def defined_steep(base, tableau):
    """Read the first sentence of [56]."""
    size = len(tableau)
    for j in range(1, size):
        for i in range(1, j + 2):
            left = base[j] + sum(entries_of(tableau, g, j + 1) for g in range(1, i + 1))
            if left > base[j - 1] + sum(entries_of(tableau, g, j) for g in range(1, i)):
                return False
    return True


def defined_fair(tableau):
    """Read the second sentence of [56]."""
    size = len(tableau)
    for j in range(1, size):
        for i in range(1, j + 1):
            left = sum(entries_of(tableau, i + 1, h) for h in range(i + 1, j + 2))
            if left > sum(entries_of(tableau, i, h) for h in range(i, j + 1)):
                return False
    return True


def defined_fits(base, tableau):
    return defined_steep(base, tableau) and defined_fair(tableau)


def defined_content(tableau):
    size = len(tableau)
    return tuple(sum(entries_of(tableau, i, j) for j in range(i, size + 1)) for i in range(1, size + 1))


def defined_shape(base, tableau):
    return tuple(base[j - 1] + sum(tableau[j - 1]) for j in range(1, len(tableau) + 1))


def defined_array(base, tableau):
    """Return the array of [62]."""
    size = len(tableau)
    return tuple(
        tuple(
            sum(base[:j]) + sum(entries_of(tableau, g, h) for h in range(1, j + 1) for g in range(1, min(i, h) + 1))
            for i in range(j + 1)
        )
        for j in range(size + 1)
    )


def weak_compositions(total, length):
    """Return all tuples of this many integers from 0 on with this sum."""
    if length == 0:
        return [()] if total == 0 else []
    return [(first,) + rest for first in range(total + 1) for rest in weak_compositions(total - first, length - 1)]


def tableaux_with(base, content, shape):
    """Return all tableaux of this content and outer shape that fit the base."""
    sums = [after - before for before, after in zip(base, shape)]
    if min(sums) < 0:
        return []
    levels = [weak_compositions(total, at) for at, total in enumerate(sums, 1)]
    return [each for each in itertools.product(*levels)
            if defined_content(each) == content and defined_fits(base, each)]


def all_tableaux(size, high):
    """Return all tableaux of this size with numbers from 0 to high."""
    levels = [list(itertools.product(range(high + 1), repeat=at)) for at in range(1, size + 1)]
    return list(itertools.product(*levels))


def empty_tableau(size):
    return tuple((0,) * at for at in range(1, size + 1))


def wrong_tableaux():
    """Return values that are not tableaux."""
    found = [value for label, value in not_integers() if label != "empty tuple"] + [0, 1, HUGE, "ab"]
    found += [((),), (1, (0, 1)), ((1,), (0,)), ((1,), (0, 1, 2)), ((0, 1), (1,)), ((1, 0),), ((), (0,)), ((1,), ())]
    found += [[(1,), (0, 1)], ([1], [0, 1]), ((1,), [0, 1]), ([1], (0, 1)), [[1]], nested(1, 3), ((1,), doubled(0))]
    found += [empty_tableau(61), empty_tableau(62), empty_tableau(60) + ((),), ((0,),) * 1000, (doubled(0),)]
    for size in (1, 2, 3, 6, 60):
        good = empty_tableau(size)
        for at in sorted({0, size // 2, size - 1}):
            level = good[at]
            for wrong in (level[1:], level + (0,), list(level), set(level), at, None, "0" * (at + 1), doubled(0)):
                found.append(replaced(good, at, wrong))
            for wrong in (-1, -HUGE, -THOUSAND_DIGITS):
                found.append(replaced(good, at, replaced(level, at, wrong)))
                found.append(replaced(good, at, replaced(level, 0, wrong)))
            for _, wrong in not_integers():
                found.append(replaced(good, at, replaced(level, at // 2, wrong)))
    return found


def wrong_bases():
    """Return pairs (value, position) for values that are not bases."""
    found = [(value, position) for label, value, position in wrong_partitions()
             if not isinstance(value, tuple) or 1 <= len(value) <= 6]
    found += [((0,) * 61, None), ((None,) * 61, None), ((0,) * 1000, None), ([], None), ([0], None), (None, None)]
    found += [((0,) * 59 + (1,), 59), ((0,) * 59 + (True,), 59), (tuple(range(60)), 1), ((0,) * 59 + (doubled(0),), 59)]
    found += [((7, 6, 5, 4, 3, 2, 1, 2), 7), ((7, 6, 5, 4, 3, 2, 1, None, 9), 7), ((-1, -1, 0), 2)]
    return found
