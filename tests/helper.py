"""What the tests share: wrong values, sample arrays, and the definitions of DOC.md written a second time.

The definitions here start from cells and edges, and not from the table of rhombuses,
so that they do not repeat the program's own way.
"""

import faulthandler
import sys
import unittest

SIZES = (1, 2, 3, 4, 5, 6)
E = ((0,), (1, 2), (1, 2, 2))
HUGE = 10 ** 45 + 7
THOUSAND_DIGITS = 10 ** 999 + 3
SECONDS = 60


class TestCase(unittest.TestCase):
    """A test that ends the run if it hangs, and that compares values together with their kinds."""

    def setUp(self):
        # A thread outside of Python: a hash or a comparison that never ends cannot be interrupted otherwise.
        faulthandler.dump_traceback_later(SECONDS, exit=True, file=sys.__stderr__)
        self.addCleanup(faulthandler.cancel_dump_traceback_later)

    def assert_same(self, found, expected):
        self.assertEqual(kinds(found), kinds(expected))
        self.assertEqual(found, expected)

    def assert_raises(self, error, fields, call, *args, **named):
        """Check the class of the exception and its fields, which are given as a dict."""
        with self.assertRaises(error) as caught:
            call(*args, **named)
        self.assertTrue(caught.exception.__class__ is error)
        for name, expected in fields.items():
            self.assert_same(getattr(caught.exception, name), expected)

    def assert_raises_with(self, error, field, value, call, *args, **named):
        """Check that the field of the exception is the very object."""
        with self.assertRaises(error) as caught:
            call(*args, **named)
        self.assertTrue(caught.exception.__class__ is error)
        # No assertIs: its message would write out a value that cannot be written out.
        self.assertTrue(getattr(caught.exception, field) is value, "another object in the field")


def kinds(value):
    """Return the classes of a value and of its parts."""
    if isinstance(value, (tuple, list)):
        return (value.__class__, [kinds(part) for part in value])
    return value.__class__


def doubled(part, width=2, times=60):
    """Return a tuple in which the part occurs width ** times times."""
    for _ in range(times):
        part = (part,) * width
    return part


def doubled_list(part, times=60):
    for _ in range(times):
        part = [part, part]
    return part


def nested(part, depth=99):
    for _ in range(depth):
        part = (part,)
    return part


class Plain:
    """An object that is none of the values the program knows."""


def not_integers():
    """Return pairs (label, value) of values of every kind except integers. The values are new each time."""
    return [
        ("True", True),
        ("False", False),
        ("None", None),
        ("empty text", ""),
        ("digit", "1"),
        ("direction", "flat"),
        ("long text", "x" * 20000),
        ("bytes", b"1"),
        ("empty tuple", ()),
        ("tuple of one", (1,)),
        ("pair", (1, 0)),
        ("triple", ("flat", 0, 0)),
        ("empty list", []),
        ("list of one", [1]),
        ("list of two", [1, 0]),
        ("dict", {0: 1}),
        ("set", {1}),
        ("frozen set", frozenset((1,))),
        ("range", range(1)),
        ("object", Plain()),
        ("class", int),
        ("function", doubled),
        ("exception", ValueError(1)),
        ("nested tuple", nested(1)),
        ("doubled integer", doubled(1)),
        ("doubled empty tuple", doubled(())),
        ("doubled list", doubled_list(1)),
        ("tripled", doubled(0, width=3)),
        ("sevenfold", doubled(0, width=7)),
    ]


class Numbers:
    """A fixed sequence of numbers without a visible pattern."""

    def __init__(self, seed):
        self.state = seed * 2654435761 + 12345

    def below(self, bound):
        self.state = (self.state * 6364136223846793005 + 1442695040888963407) % 2 ** 64
        return (self.state >> 33) % bound

    def between(self, low, high):
        return low + self.below(high - low + 1)


def vertices(size):
    return [(r, k) for r in range(size + 1) for k in range(r + 1)]


def edge_ends(edge):
    """Return the start and the end of an edge, by [11]."""
    direction, r, k = edge
    steps = {"left": (1, 0), "flat": (0, 1), "right": (1, 1)}
    return (r, k), (r + steps[direction][0], k + steps[direction][1])


def cell_edges(corners):
    """Return the three edges of the cell with these vertices."""
    found = []
    for r, k in corners:
        for direction in ("left", "flat", "right"):
            if edge_ends((direction, r, k))[1] in corners:
                found.append((direction, r, k))
    return found


def up_cells(size):
    return {(r, k): ((r, k), (r + 1, k), (r + 1, k + 1)) for r in range(size) for k in range(r + 1)}


def down_cells(size):
    return {(r, k): ((r, k), (r, k + 1), (r + 1, k + 1)) for r in range(size) for k in range(r)}


def defined_rhombuses(size):
    """Return a dict from every rhombus to its pair (ends, tips): two cells that share an edge, by [15]."""
    found = {}
    for (r, k), up in up_cells(size).items():
        for down in down_cells(size).values():
            for edge in cell_edges(up):
                if edge in cell_edges(down):
                    ends = edge_ends(edge)
                    tips = tuple(sorted(set(up) ^ set(down)))
                    found[(edge[0], r, k)] = (tuple(sorted(ends)), tips)
    return found


RHOMBUSES = {size: defined_rhombuses(size) for size in SIZES}


def defined_slacks(array):
    """Return a dict from every rhombus of an array to its slack, by [16]."""
    found = {}
    for rhombus, (ends, tips) in RHOMBUSES[len(array) - 1].items():
        found[rhombus] = sum(array[r][k] for r, k in ends) - sum(array[r][k] for r, k in tips)
    return found


def defined_concave(array):
    return all(amount >= 0 for amount in defined_slacks(array).values())


def difference(array, edge):
    (r, k), (r2, k2) = edge_ends(edge)
    return array[r2][k2] - array[r][k]


def defined_borders(array):
    """Return the borders of an array, by [14]."""
    size = len(array) - 1
    return (
        tuple(difference(array, ("left", at, 0)) for at in range(size)),
        tuple(difference(array, ("flat", size, at)) for at in range(size)),
        tuple(difference(array, ("right", at, at)) for at in range(size)),
    )


def backwards(border):
    """Return the negated entries in reverse order, for any tuple of integers."""
    return tuple(-item for item in reversed(border))


def make(size, function):
    """Return the array with these entries, lowered so that the entry at (0, 0) is 0."""
    low = function(0, 0)
    return tuple(tuple(function(r, k) - low for k in range(r + 1)) for r in range(size + 1))


def bowl(size):
    """Return an array in which every slack is 1."""
    return make(size, lambda r, k: -sum(x * (x - 1) // 2 for x in (r, k, r - k)))


def dented(size, rhombus):
    """Return an array in which this rhombus, and no other, has a negative slack."""
    (start, end), tips = RHOMBUSES[size][rhombus]
    along = (end[0] - start[0], end[1] - start[1])
    aside = (tips[0][0] - start[0], tips[0][1] - start[1])
    turn = along[0] * aside[1] - along[1] * aside[0]

    def depth(r, k):
        r, k = r - start[0], k - start[1]
        far = (r * aside[1] - k * aside[0]) * turn
        high = (along[0] * k - along[1] * r) * turn
        return min(2 * far + high, 2 - 2 * far - high, abs(high), 2 - abs(high))

    return make(size, depth)


def some_array(numbers, size, bound=9):
    """Return an array that is concave only by chance."""
    return make(size, lambda r, k: numbers.between(-bound, bound) if r else 0)


def bent(numbers, length):
    """Return the values of a function at 0 to length whose differences are weakly decreasing."""
    step = numbers.between(-6, 6)
    values = [0]
    for _ in range(length):
        values.append(values[-1] + step)
        step -= numbers.below(3)
    return values


def concave_array(numbers, size, moves=60):
    """Return a concave array: a sum of bent functions, with entries changed as long as it stays concave."""
    across, down, aside = bent(numbers, size), bent(numbers, size), bent(numbers, size)
    rows = [list(row) for row in make(size, lambda r, k: across[k] + down[r] + aside[r - k])]
    for _ in range(moves):
        r, k = vertices(size)[1 + numbers.below(len(vertices(size)) - 1)]
        change = numbers.between(-2, 2)
        rows[r][k] += change
        if not defined_concave(rows):
            rows[r][k] -= change
    return tuple(tuple(row) for row in rows)


def concave_samples(size, many=12):
    numbers = Numbers(100 + size)
    return [concave_array(numbers, size) for _ in range(many)] + [bowl(size), make(size, lambda r, k: 0)]


def other_samples(size, many=12):
    """Return arrays that are not concave; there is none of size 1."""
    if size == 1:
        return []
    numbers = Numbers(200 + size)
    found = [some_array(numbers, size) for _ in range(many)]
    found = [array for array in found if not defined_concave(array)]
    return found + [dented(size, rhombus) for rhombus in sorted(RHOMBUSES[size])]


def big_samples(size):
    """Return two concave arrays and an array that is not, with entries of 46 and of 1,000 digits."""
    second = make(size, lambda r, k: THOUSAND_DIGITS * r - (THOUSAND_DIGITS - 1) * k)
    first = tuple(tuple(item * HUGE for item in row) for row in bowl(size))
    third = make(size, lambda r, k: HUGE * r * r + k * k)
    return [first, second, third]


def samples(size):
    """Return arrays of this size, concave and not concave."""
    return concave_samples(size) + other_samples(size) + big_samples(size)
