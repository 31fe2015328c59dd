"""threerims.products: dimensions and multiplicities against lists of all fillings; [58] and [80] to [82]."""

import fractions
import functools
import itertools
import time

from threerims import products as module
from threerims.concave import count_solutions
from threerims.errors import InvalidPartition, LimitExceeded, SizeMismatch
from threerims.partitions import shift
from threerims.products import dimension, multiplicities
from tests.helper import (
    HUGE,
    SIZES,
    THOUSAND_DIGITS,
    Numbers,
    TestCase,
    doubled,
    partitions_from,
    raised,
    sign_of,
    some_partition,
    tableaux_with,
    thirds,
    tried_solutions,
    wrong_nonnegatives,
)


def rows_under(above, length, size):
    """Return all rows of a filling that may stand below another row."""
    found = itertools.combinations_with_replacement(range(1, size + 1), length)
    return [row for row in found if all(low > high for low, high in zip(row, above))]


@functools.lru_cache(maxsize=None)
def all_fillings(partition):
    """Return all fillings, by [58], as tuples of rows."""
    size = len(partition)
    found = [(row,) for row in rows_under((), partition[0], size)]
    for length in partition[1:]:
        found = [rows + (row,) for rows in found for row in rows_under(rows[-1], length, size)]
    return found


def defined_dimension(partition):
    """Return the dimension by the product of [80]."""
    found = fractions.Fraction(1)
    for i, j in itertools.combinations(range(len(partition)), 2):
        found *= fractions.Fraction(partition[i] - partition[j] + j - i, j - i)
    assert found.denominator == 1
    return int(found)


def defined_multiplicities(a, b):
    """Return the multiplicities by [81], filling by filling."""
    size = len(a)
    totals = {}
    for filling in all_fillings(b):
        entries = [entry for row in filling for entry in row]
        numbers = [a[i - 1] + entries.count(i) + size - i for i in range(1, size + 1)]
        if len(set(numbers)) == size:
            ordered = sorted(numbers, reverse=True)
            partition = tuple(ordered[i - 1] - (size - i) for i in range(1, size + 1))
            # sign_of counts exchanges towards an ascending order.
            sign = sign_of([-number for number in numbers])
            totals[partition] = totals.get(partition, 0) + sign
    return tuple((partition, totals[partition]) for partition in sorted(totals, reverse=True) if totals[partition])


def small_pairs(size):
    """Return pairs of nonnegative partitions."""
    found = list(itertools.product(partitions_from(size, 0, (6, 4, 2, 1)[size - 1]), repeat=2))
    numbers = Numbers(80 + size)
    for _ in range(12):
        found.append((some_partition(numbers, size, 12), some_partition(numbers, size, (8, 8, 5, 3)[size - 1])))
    return found


def large_pairs(size):
    """Return pairs whose second partition has a first entry up to the limit."""
    numbers = Numbers(90 + size)
    found = []
    for first in (0, 7, 8):
        for _ in range(4):
            rest = some_partition(numbers, size - 1, first) if size > 1 else ()
            found.append((some_partition(numbers, size, 12), (first,) + rest))
    return found


class Dimension(TestCase):

    def test_numbers_of_fillings(self):
        for size, high in ((1, 9), (2, 6), (3, 4), (4, 3), (5, 1), (6, 1)):
            for partition in partitions_from(size, 0, high):
                self.assert_same(dimension(partition), len(all_fillings(partition)))

    def test_larger_numbers_of_fillings(self):
        for partition in ((2, 1, 0, 0, 0), (3, 2, 1, 0), (2, 2, 1, 1, 0), (2, 1, 1, 0, 0, 0), (5, 3, 0), (1, 1, 1, 1, 1, 1)):
            self.assert_same(dimension(partition), len(all_fillings(partition)))

    def test_product_of_quotients(self):
        for size in SIZES:
            numbers = Numbers(100 + size)
            for spread in (0, 1, 3, 20, HUGE, THOUSAND_DIGITS):
                for _ in range(5):
                    partition = some_partition(numbers, size, spread)
                    self.assert_same(dimension(partition), defined_dimension(partition))

    def test_equal_entries(self):
        for size in SIZES:
            for entry in (0, 1, 12, THOUSAND_DIGITS):
                self.assert_same(dimension((entry,) * size), 1)

    def test_amounts_that_are_added(self):
        for partition in partitions_from(4, 0, 3):
            self.assert_same(dimension(raised(partition, HUGE)), dimension(partition))

    def test_wrong_partitions(self):
        for label, value, position in wrong_nonnegatives():
            with self.subTest(label):
                self.assert_raises(InvalidPartition, {"position": position}, dimension, value)


class Multiplicities(TestCase):

    def test_constant(self):
        self.assert_same(module.MAX_FILLED, 8)

    def test_multiplicities_of_all_fillings(self):
        for size in (1, 2, 3, 4):
            for a, b in small_pairs(size):
                self.assert_same(multiplicities(a, b), defined_multiplicities(a, b))

    def test_numbers_of_solutions(self):
        most = 0
        for size in (1, 2, 3):
            for a, b in small_pairs(size) + large_pairs(size):
                found = dict(multiplicities(a, b))
                for c in thirds(a, b):
                    if c[0] - c[-1] <= 20:
                        self.assertEqual(found.pop(c, 0), count_solutions(a, b, c))
                self.assertEqual(found, {})
        for a, b in (((3, 2, 1, 0), (3, 2, 1, 0)), ((4, 2, 1, 0), (2, 2, 1, 0)), ((2, 1, 0, 0), (3, 2, 0, 0))):
            found = dict(multiplicities(a, b))
            most = max(most, *found.values())
            self.assertEqual(found, {c: count_solutions(a, b, c) for c in thirds(a, b) if count_solutions(a, b, c)})
        self.assertGreater(most, 2)

    def test_numbers_of_solutions_and_of_tableaux(self):
        for size, high in ((1, 3), (2, 3), (3, 2)):
            for a, b in itertools.product(partitions_from(size, 0, high), repeat=2):
                found = dict(multiplicities(a, b))
                for c in thirds(a, b):
                    self.assertEqual(found.get(c, 0), len(tried_solutions(a, b, c)))
                    self.assertEqual(found.get(c, 0), len(tableaux_with(a, b, c)))

    def test_exchanged_partitions(self):
        for size in (1, 2, 3, 4):
            for a, b in small_pairs(size):
                if a[0] <= 8:
                    self.assert_same(multiplicities(a, b), multiplicities(b, a))

    def test_product_of_the_dimensions(self):
        for size in (1, 2, 3, 4):
            for a, b in small_pairs(size) + large_pairs(size):
                total = sum(dimension(c) * many for c, many in multiplicities(a, b))
                self.assertEqual(dimension(a) * dimension(b), total)

    def test_partitions_come_in_descending_order(self):
        for size in (1, 2, 3, 4):
            for a, b in large_pairs(size):
                found = multiplicities(a, b)
                partitions = [c for c, _ in found]
                self.assertEqual(partitions, sorted(set(partitions), reverse=True))
                self.assertTrue(all(many > 0 for _, many in found))
                self.assertEqual({sum(c) for c in partitions}, {sum(a) + sum(b)})

    def test_empty_partition(self):
        for size in (1, 2, 3, 4):
            zero = (0,) * size
            for partition in partitions_from(size, 0, 3):
                self.assert_same(multiplicities(partition, zero), ((partition, 1),))
                self.assert_same(multiplicities(zero, partition), ((partition, 1),))

    def test_amounts_that_are_added_to_the_first_partition(self):
        for size in (1, 2, 3, 4):
            for a, b in small_pairs(size)[-12:]:
                for amount in (HUGE, THOUSAND_DIGITS):
                    expected = tuple((shift(c, amount), many) for c, many in multiplicities(a, b))
                    self.assert_same(multiplicities(raised(a, amount), b), expected)

    def test_wide_first_partitions(self):
        a, b = (THOUSAND_DIGITS, HUGE, 5000, 0), (1, 1, 0, 0)
        expected = sorted((tuple(x + (at in chosen) for at, x in enumerate(a))
                           for chosen in itertools.combinations(range(4), 2)), reverse=True)
        self.assert_same(multiplicities(a, b), tuple((c, 1) for c in expected))


class Errors(TestCase):

    def test_wrong_partitions(self):
        for label, value, position in wrong_nonnegatives():
            with self.subTest(label):
                fields = {"position": position}
                for other in ((1, 0), (9,), (9, 0, 0, 0, 0, 0), None, (0, -1), doubled(0)):
                    self.assert_raises(InvalidPartition, fields, multiplicities, value, other)
                for other in ((1, 0), (9,), (9, 0, 0, 0, 0, 0)):
                    self.assert_raises(InvalidPartition, fields, multiplicities, other, value)

    def test_different_sizes(self):
        for one, two in itertools.permutations(SIZES, 2):
            for first in (0, 9):
                a, b = (first,) + (0,) * (one - 1), (first,) + (0,) * (two - 1)
                self.assert_raises(SizeMismatch, {"sizes": (one, two)}, multiplicities, a, b)

    def test_limits(self):
        for size in SIZES:
            for first in (0, 7, 8, 9, 10, HUGE):
                b = (first,) + (0,) * (size - 1)
                for a in ((0,) * size, (HUGE,) + (0,) * (size - 1), (9,) * size):
                    if size > 4:
                        self.assert_raises(LimitExceeded, {"limit": 4}, multiplicities, a, b)
                    elif first > 8:
                        self.assert_raises(LimitExceeded, {"limit": 8}, multiplicities, a, b)
                    else:
                        total = sum(dimension(c) * many for c, many in multiplicities(a, b))
                        self.assertEqual(total, dimension(a) * dimension(b))


class Times(TestCase):

    def test_largest_inputs(self):
        calls = [(dimension, tuple(range(5 * THOUSAND_DIGITS, -1, -THOUSAND_DIGITS)))]
        calls += [(multiplicities, a, b) for a in ((12, 8, 4, 0), (HUGE, 9, 9, 0)) for b in ((8, 5, 3, 0), (8, 6, 2, 0))]
        for call, *args in calls:
            start = time.process_time()
            call(*args)
            self.assertLess(time.process_time() - start, 5)
