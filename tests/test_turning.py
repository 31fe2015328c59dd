"""threerims.turning: [90] to [93] read out literally, over many pairs of every size."""

import itertools
import time

from threerims.errors import BorderMismatch, InvalidArray, SizeMismatch
from threerims.turning import cross_pair, stack_pair
from tests.helper import (
    E,
    HUGE,
    SIZES,
    THOUSAND_DIGITS,
    Numbers,
    TestCase,
    bent,
    bowl,
    concave_samples,
    defined_borders,
    defined_concave,
    dented,
    doubled,
    make,
    multiple,
    other_samples,
    partitions_from,
    plus,
    replaced,
    thirds,
    tried_solutions,
    vertices,
    wrong_arrays,
)

FUNCTIONS = (cross_pair, stack_pair)


def weights(size):
    """Return all weights of this size, by [91]."""
    return [each for each in itertools.product(range(size + 1), repeat=4) if sum(each) == size]


def defined_crossed(first, second):
    """Return the crossed pair of a stacked pair, by [91]."""
    n = len(first) - 1
    x = {}
    for r, k in vertices(n):
        x[n - r, r - k, k, 0] = first[r][k]
    for r, k in vertices(n):
        x.setdefault((n - r, 0, r - k, k), second[r][k])
    for p, q, r, s in sorted(weights(n), key=lambda weight: weight[1] + weight[3]):
        if (p, q, r, s) not in x:
            x[p, q, r, s] = max(x[p + 1, q, r, s - 1] + x[p, q - 1, r + 1, s],
                                x[p + 1, q - 1, r, s] + x[p, q, r + 1, s - 1]) - x[p + 1, q - 1, r + 1, s - 1]
    return (
        tuple(tuple(x[0, n - r, r - k, k] - x[0, n, 0, 0] for k in range(r + 1)) for r in range(n + 1)),
        tuple(tuple(x[n - r, r - k, 0, k] for k in range(r + 1)) for r in range(n + 1)),
    )


def defined_stacked(first, second):
    """Return the stacked pair of a crossed pair, by [92]."""
    n = len(first) - 1
    x = {}
    for r, k in vertices(n):
        x[0, n - r, r - k, k] = first[r][k] + second[n][0]
    for r, k in vertices(n):
        x.setdefault((n - r, r - k, 0, k), second[r][k])
    for p, q, r, s in sorted(weights(n), key=lambda weight: weight[0] + weight[2]):
        if (p, q, r, s) not in x:
            x[p, q, r, s] = max(x[p, q + 1, r - 1, s] + x[p - 1, q, r, s + 1],
                                x[p, q, r - 1, s + 1] + x[p - 1, q + 1, r, s]) - x[p - 1, q + 1, r - 1, s + 1]
    return (
        tuple(tuple(x[n - r, r - k, k, 0] for k in range(r + 1)) for r in range(n + 1)),
        tuple(tuple(x[n - r, 0, r - k, k] for k in range(r + 1)) for r in range(n + 1)),
    )


def array_with_first_border(numbers, border, moves=50):
    """Return a concave array with this first border."""
    size = len(border)
    across = bent(numbers, size)
    rows = [list(row) for row in make(size, lambda r, k: sum(border[:r]) + across[k])]
    for _ in range(moves):
        r, k = vertices(size)[1 + numbers.below(len(vertices(size)) - 1)]
        change = numbers.between(-2, 2)
        if k > 0:
            rows[r][k] += change
            if not defined_concave(rows):
                rows[r][k] -= change
    return tuple(tuple(row) for row in rows)


def turned_twice(array):
    """Return the array rotated twice, by [21]: its second border is the first border of the array."""
    n = len(array) - 1
    for _ in range(2):
        array = tuple(tuple(array[n - k][r - k] - array[n][0] for k in range(r + 1)) for r in range(n + 1))
    return array


def stacked_pairs(size):
    """Return stacked pairs, some with large entries."""
    numbers = Numbers(800 + size)
    found = []
    for first in concave_samples(size):
        for _ in range(2):
            found.append((first, array_with_first_border(numbers, defined_borders(first)[2])))
    found += [multiple(pair, factor) for pair in found[:3] for factor in (0, 7, HUGE)]
    return found + [plus(multiple(found[0], THOUSAND_DIGITS), found[1])]


def crossed_pairs(size):
    numbers = Numbers(900 + size)
    found = []
    for first in concave_samples(size):
        for _ in range(2):
            found.append((first, turned_twice(array_with_first_border(numbers, defined_borders(first)[2]))))
    found += [multiple(pair, factor) for pair in found[:3] for factor in (0, 7, HUGE)]
    return found + [plus(multiple(found[0], THOUSAND_DIGITS), found[1])]


def all_stacked(a, b, e, c):
    return [pair for d in thirds(a, b) for pair in itertools.product(tried_solutions(a, b, d), tried_solutions(d, e, c))]


def all_crossed(a, b, e, c):
    return [pair for f in thirds(b, e) for pair in itertools.product(tried_solutions(b, e, f), tried_solutions(a, f, c))]


class CrossPair(TestCase):

    def test_as_defined(self):
        for size in SIZES:
            for first, second in stacked_pairs(size):
                self.assert_same(cross_pair(first, second), defined_crossed(first, second))

    def test_crossed_pairs_are_concave_and_have_the_borders(self):
        for size in SIZES:
            for first, second in stacked_pairs(size):
                (a, b, d), (d2, e, c) = defined_borders(first), defined_borders(second)
                self.assertEqual(d, d2)
                one, two = cross_pair(first, second)
                self.assertTrue(defined_concave(one) and defined_concave(two))
                self.assertEqual(defined_borders(one)[:2], (b, e))
                self.assertEqual(defined_borders(two), (a, defined_borders(one)[2], c))

    def test_turning_back(self):
        for size in SIZES:
            for pair in stacked_pairs(size):
                self.assert_same(stack_pair(*cross_pair(*pair)), pair)


class StackPair(TestCase):

    def test_as_defined(self):
        for size in SIZES:
            for first, second in crossed_pairs(size):
                self.assert_same(stack_pair(first, second), defined_stacked(first, second))

    def test_stacked_pairs_are_concave_and_have_the_borders(self):
        for size in SIZES:
            for first, second in crossed_pairs(size):
                (b, e, f), (a, f2, c) = defined_borders(first), defined_borders(second)
                self.assertEqual(f, f2)
                one, two = stack_pair(first, second)
                self.assertTrue(defined_concave(one) and defined_concave(two))
                self.assertEqual(defined_borders(one)[:2], (a, b))
                self.assertEqual(defined_borders(two), (defined_borders(one)[2], e, c))

    def test_turning_forth(self):
        for size in SIZES:
            for pair in crossed_pairs(size):
                self.assert_same(cross_pair(*stack_pair(*pair)), pair)


class AllPairs(TestCase):

    def assert_one_to_one(self, a, b, e, c):
        stacked, crossed = all_stacked(a, b, e, c), all_crossed(a, b, e, c)
        self.assertEqual(len(stacked), len(crossed))
        self.assertEqual(sorted(cross_pair(*pair) for pair in stacked), sorted(crossed))
        self.assertEqual(sorted(stack_pair(*pair) for pair in crossed), sorted(stacked))
        return len(stacked)

    def test_small_borders(self):
        most = 0
        for size, high in ((1, 2), (2, 2), (3, 1)):
            for a, b, e in itertools.product(partitions_from(size, 0, high), repeat=3):
                total = sum(a + b + e)
                for c in partitions_from(size, 0, 3 * high):
                    if sum(c) == total:
                        most = max(most, self.assert_one_to_one(a, b, e, c))
        self.assertGreater(most, 2)

    def test_borders_with_many_pairs(self):
        a = (2, 1, 0)
        for c in ((4, 3, 2), (5, 3, 1), (4, 4, 1), (3, 3, 3), (6, 2, 1)):
            self.assertGreater(self.assert_one_to_one(a, a, a, c), 1)
        self.assertGreater(self.assert_one_to_one((1, 0, -1), (2, 1, 0), (0, -1, -3), (1, 0, -2)), 1)


class Errors(TestCase):

    def test_wrong_arrays(self):
        for label, value, row in wrong_arrays():
            with self.subTest(label):
                for function in FUNCTIONS:
                    for other in (E, bowl(3), None, dented(2, ("flat", 0, 0)), doubled(0)):
                        self.assert_raises(InvalidArray, {"row": row}, function, value, other)
                    for other in (E, bowl(3)):
                        self.assert_raises(InvalidArray, {"row": row}, function, other, value)

    def test_arrays_that_are_not_concave(self):
        for size in SIZES:
            for array in other_samples(size):
                for function in FUNCTIONS:
                    for other in (bowl(size), bowl(7 - size), None, ((0,), (True, 1)), doubled(0)):
                        self.assert_raises(InvalidArray, {"row": None}, function, array, other)
                    for other in (bowl(size), bowl(7 - size)):
                        self.assert_raises(InvalidArray, {"row": None}, function, other, array)

    def test_different_sizes(self):
        for one, two in itertools.permutations(SIZES, 2):
            for function in FUNCTIONS:
                self.assert_raises(SizeMismatch, {"sizes": (one, two)}, function, bowl(one), bowl(two))

    def test_borders_that_do_not_match(self):
        refused = 0
        for size in SIZES:
            found = concave_samples(size)
            for first, second in itertools.product(found, repeat=2):
                for function, at in ((cross_pair, 0), (stack_pair, 1)):
                    border = defined_borders(second)[at]
                    if border != defined_borders(first)[2]:
                        self.assert_raises(BorderMismatch, {"border": border}, function, first, second)
                        refused += 1
        self.assertGreater(refused, 1000)

    def test_borders_that_differ_in_one_entry(self):
        for size in SIZES:
            for pairs, function, at in ((stacked_pairs(size), cross_pair, 0), (crossed_pairs(size), stack_pair, 1)):
                for first, second in pairs[:6]:
                    for r in range(1, size + 1):
                        place = (r, 0) if at == 0 else (size, r)
                        rows = replaced(second, place[0], replaced(second[place[0]], place[1],
                                                                   second[place[0]][place[1]] + 1))
                        border = defined_borders(rows)[at]
                        if defined_concave(rows):
                            self.assert_raises(BorderMismatch, {"border": border}, function, first, rows)
                        else:
                            self.assert_raises(InvalidArray, {"row": None}, function, first, rows)

    def test_each_function_looks_at_its_own_border(self):
        first, second = ((0,), (1, 2)), ((0,), (2, 5))
        self.assert_same(cross_pair(first, second), (((0,), (1, 4)), ((0,), (1, 5))))
        self.assert_raises(BorderMismatch, {"border": (3,)}, stack_pair, first, second)
        second = ((0,), (3, 5))
        self.assert_raises(BorderMismatch, {"border": (3,)}, cross_pair, first, second)
        self.assert_same(stack_pair(first, second), (((0,), (3, 4)), ((0,), (4, 5))))


class Times(TestCase):

    def test_largest_inputs(self):
        stacked, crossed = stacked_pairs(6)[-1], crossed_pairs(6)[-1]
        for call, *args in ((cross_pair, *stacked), (stack_pair, *crossed)):
            start = time.process_time()
            call(*args)
            self.assertLess(time.process_time() - start, 5)
