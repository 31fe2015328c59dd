"""threerims.partitions: ordinary values, edges and wrong values."""

import itertools

from threerims import partitions
from threerims.errors import InvalidFactor, InvalidPartition, SizeMismatch
from threerims.partitions import (
    add_partitions,
    check_partition,
    is_integer,
    is_partition,
    negate,
    scale_partition,
    shift,
)
from tests.helper import HUGE, SIZES, THOUSAND_DIGITS, Plain, TestCase, doubled, not_integers, wrong_partitions

SAMPLES = (
    (0,),
    (-5,),
    (3, 3),
    (2, -1),
    (4, 0, -4),
    (1, 1, 1),
    (7, 5, 5, 0),
    (0, 0, 0, 0),
    (5, 4, 3, 2, 1),
    (-1, -2, -2, -3, -9),
    (6, 5, 4, 3, 2, 1),
    (2, 2, 0, 0, -2, -2),
    (HUGE, HUGE - 1, -HUGE),
    (THOUSAND_DIGITS, 0, -THOUSAND_DIGITS),
)


class Integers(TestCase):

    def test_integers(self):
        for value in (0, 1, -1, 6, 7, HUGE, -HUGE, THOUSAND_DIGITS, -THOUSAND_DIGITS):
            self.assertIs(is_integer(value), True)

    def test_other_values(self):
        for label, value in not_integers():
            self.assertTrue(is_integer(value) is False, label)


class CheckPartition(TestCase):

    def test_constant(self):
        self.assert_same(partitions.MAX_SIZE, 6)

    def test_partitions(self):
        for value in SAMPLES:
            self.assertIsNone(check_partition(value))
            self.assertIs(is_partition(value), True)

    def test_every_size(self):
        for size in range(10):
            self.assertIs(is_partition((4,) * size), 1 <= size <= 6)
            self.assertIs(is_partition(tuple(range(size, 0, -1))), 1 <= size <= 6)

    def test_all_small_tuples(self):
        for size in (1, 2, 3, 4):
            for value in itertools.product(range(-1, 3), repeat=size):
                rises = [at for at in range(1, size) if value[at] > value[at - 1]]
                self.assertIs(is_partition(value), not rises)
                if rises:
                    self.assert_raises(InvalidPartition, {"position": rises[0]}, check_partition, value)
                else:
                    self.assertIsNone(check_partition(value))

    def test_wrong_values(self):
        for label, value, position in wrong_partitions():
            with self.subTest(label):
                self.assertTrue(is_partition(value) is False)
                self.assert_raises(InvalidPartition, {"position": position}, check_partition, value)


class Operations(TestCase):

    def test_negate(self):
        for value in SAMPLES:
            self.assert_same(negate(value), tuple(sorted(-item for item in value))[::-1])
            self.assert_same(negate(negate(value)), value)
        self.assert_same(negate((5, 3, 3, -1)), (1, -3, -3, -5))
        self.assert_same(negate((7,)), (-7,))

    def test_shift(self):
        for value in SAMPLES:
            for amount in (0, 1, -1, 12, -30, HUGE, -THOUSAND_DIGITS):
                self.assert_same(shift(value, amount), tuple(item + amount for item in value))
        self.assert_same(shift((3, 1, -2), -2), (1, -1, -4))

    def test_scale(self):
        for value in SAMPLES:
            for factor in (0, 1, 2, 9, HUGE, THOUSAND_DIGITS):
                self.assert_same(scale_partition(value, factor), tuple(item * factor for item in value))
        self.assert_same(scale_partition((3, 1, -2), 0), (0, 0, 0))
        self.assert_same(scale_partition((3, 1, -2), 3), (9, 3, -6))

    def test_add(self):
        for first in SAMPLES:
            for second in SAMPLES:
                if len(first) == len(second):
                    expected = tuple(first[at] + second[at] for at in range(len(first)))
                    self.assert_same(add_partitions(first, second), expected)
        self.assert_same(add_partitions((5, 3, -1), (0, -1, -1)), (5, 2, -2))

    def test_results_are_partitions(self):
        for value in SAMPLES:
            for result in (negate(value), shift(value, -9), scale_partition(value, 4), scale_partition(value, 0),
                           add_partitions(value, value)):
                self.assertIs(is_partition(result), True)


class WrongArguments(TestCase):

    def test_wrong_partition_alone_and_before_a_wrong_argument(self):
        for label, value, position in wrong_partitions():
            expected = {"position": position}
            with self.subTest(label):
                self.assert_raises(InvalidPartition, expected, negate, value)
                for amount in (1, True, "x", None, doubled(1)):
                    self.assert_raises(InvalidPartition, expected, shift, value, amount)
                for factor in (1, -1, True, "x", None, doubled(1)):
                    self.assert_raises(InvalidPartition, expected, scale_partition, value, factor)
                for second in ((2, 1), (1,), (1, 2, 2, 3), (1, 2), [], None, doubled(1)):
                    self.assert_raises(InvalidPartition, expected, add_partitions, value, second)

    def test_wrong_second_partition(self):
        for label, value, position in wrong_partitions():
            for first in ((3, 1), (1,), (6, 5, 4, 3, 2, 1)):
                with self.subTest(label):
                    self.assert_raises(InvalidPartition, {"position": position}, add_partitions, first, value)

    def test_wrong_amounts(self):
        for label, amount in not_integers():
            with self.subTest(label):
                self.assert_raises_with(InvalidFactor, "value", amount, shift, (3, 1), amount)

    def test_wrong_factors(self):
        for label, factor in not_integers():
            with self.subTest(label):
                self.assert_raises_with(InvalidFactor, "value", factor, scale_partition, (3, 1), factor)
        for factor in (-1, -2, -HUGE, -THOUSAND_DIGITS):
            self.assert_raises_with(InvalidFactor, "value", factor, scale_partition, (3, 1), factor)
            self.assert_raises_with(InvalidFactor, "value", factor, scale_partition, (0,), factor)

    def test_different_sizes(self):
        for first in SIZES:
            for second in SIZES:
                if first != second:
                    expected = {"sizes": (first, second)}
                    self.assert_raises(SizeMismatch, expected, add_partitions, (1,) * first, (1,) * second)

    def test_size_is_compared_after_both_partitions(self):
        self.assert_raises(InvalidPartition, {"position": 2}, add_partitions, (1,), (1, 1, 2))
        self.assert_raises(InvalidPartition, {"position": None}, add_partitions, (1,), (Plain(),) * 7)
