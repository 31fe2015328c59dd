"""[20], [21] and [22]: how arrays behave, over concave arrays and over others."""

from threerims.arrays import (
    add_arrays,
    borders,
    flat_differences,
    is_concave,
    reflect,
    rotate,
    scale_array,
    slack,
    slacks,
)
from threerims.partitions import add_partitions, check_partition, negate, scale_partition
from tests.helper import (
    HUGE,
    SIZES,
    THOUSAND_DIGITS,
    TestCase,
    backwards,
    big_samples,
    concave_samples,
    defined_borders,
    defined_slacks,
    dented,
    other_samples,
    samples,
    RHOMBUSES,
)


class Interlacing(TestCase):

    def test_borders_of_concave_arrays_are_partitions(self):
        for size in SIZES:
            for array in concave_samples(size) + big_samples(size)[:2]:
                for border in borders(array):
                    self.assertIsNone(check_partition(border))

    def test_rows_of_concave_arrays_are_partitions_and_interlace(self):
        for size in SIZES:
            for array in concave_samples(size) + big_samples(size)[:2]:
                rows = [flat_differences(array, row) for row in range(size + 1)]
                for row in range(1, size + 1):
                    self.assertIsNone(check_partition(rows[row]))
                for row in range(1, size):
                    for at in range(row):
                        self.assertLessEqual(rows[row][at], rows[row + 1][at])
                        self.assertGreaterEqual(rows[row][at], rows[row + 1][at + 1])


class Turned(TestCase):

    def test_entries_of_the_rotated_array(self):
        for size in SIZES:
            for array in samples(size):
                expected = tuple(
                    tuple(array[size - k][r - k] - array[size][0] for k in range(r + 1)) for r in range(size + 1))
                self.assert_same(rotate(array), expected)

    def test_entries_of_the_reflected_array(self):
        for size in SIZES:
            for array in samples(size):
                expected = tuple(tuple(array[r][r - k] for k in range(r + 1)) for r in range(size + 1))
                self.assert_same(reflect(array), expected)

    def test_borders_of_the_rotated_array(self):
        for size in SIZES:
            for array in samples(size):
                first, second, third = defined_borders(array)
                self.assert_same(borders(rotate(array)), (second, backwards(third), backwards(first)))
            for array in concave_samples(size):
                first, second, third = borders(array)
                self.assert_same(borders(rotate(array)), (second, negate(third), negate(first)))

    def test_borders_of_the_reflected_array(self):
        for size in SIZES:
            for array in samples(size):
                first, second, third = defined_borders(array)
                self.assert_same(borders(reflect(array)), (third, backwards(second), first))
            for array in concave_samples(size):
                first, second, third = borders(array)
                self.assert_same(borders(reflect(array)), (third, negate(second), first))

    def test_concavity_does_not_change(self):
        for size in SIZES:
            for array in concave_samples(size):
                self.assertIs(is_concave(rotate(array)), True)
                self.assertIs(is_concave(reflect(array)), True)
            for array in other_samples(size):
                self.assertIs(is_concave(rotate(array)), False)
                self.assertIs(is_concave(reflect(array)), False)

    def test_slacks_are_the_same_in_another_order(self):
        for size in SIZES:
            for array in samples(size):
                expected = sorted(defined_slacks(array).values())
                self.assertEqual(sorted(amount for _, amount in slacks(rotate(array))), expected)
                self.assertEqual(sorted(amount for _, amount in slacks(reflect(array))), expected)

    def test_three_rotations_and_two_reflections_change_nothing(self):
        for size in SIZES:
            for array in samples(size):
                self.assert_same(rotate(rotate(rotate(array))), array)
                self.assert_same(reflect(reflect(array)), array)
                self.assert_same(reflect(rotate(reflect(rotate(array)))), array)


class SumsAndMultiples(TestCase):

    def test_entries_of_scaled_arrays(self):
        for size in SIZES:
            for array in samples(size):
                for factor in (0, 1, 2, 7, HUGE, THOUSAND_DIGITS):
                    expected = tuple(tuple(item * factor for item in row) for row in array)
                    self.assert_same(scale_array(array, factor), expected)

    def test_entries_of_sums(self):
        for size in SIZES:
            arrays = samples(size)
            for first, second in zip(arrays, arrays[1:] + arrays[:1]):
                expected = tuple(
                    tuple(first[r][k] + second[r][k] for k in range(r + 1)) for r in range(size + 1))
                self.assert_same(add_arrays(first, second), expected)
                self.assert_same(add_arrays(second, first), expected)

    def test_borders_and_slacks_are_scaled(self):
        for size in SIZES:
            for array in samples(size):
                for factor in (0, 1, 3, HUGE):
                    scaled = scale_array(array, factor)
                    expected = tuple(tuple(item * factor for item in border) for border in borders(array))
                    self.assert_same(borders(scaled), expected)
                    expected = tuple((rhombus, amount * factor) for rhombus, amount in slacks(array))
                    self.assert_same(slacks(scaled), expected)
            for array in concave_samples(size):
                expected = tuple(scale_partition(border, 5) for border in borders(array))
                self.assert_same(borders(scale_array(array, 5)), expected)

    def test_borders_and_slacks_are_added(self):
        for size in SIZES:
            arrays = samples(size)
            for first, second in zip(arrays, arrays[3:] + arrays[:3]):
                total = add_arrays(first, second)
                expected = tuple(
                    tuple(a + b for a, b in zip(one, two)) for one, two in zip(borders(first), borders(second)))
                self.assert_same(borders(total), expected)
                for rhombus in RHOMBUSES[size]:
                    self.assert_same(slack(total, rhombus), slack(first, rhombus) + slack(second, rhombus))
            for first, second in zip(concave_samples(size), concave_samples(size)[1:]):
                expected = tuple(add_partitions(a, b) for a, b in zip(borders(first), borders(second)))
                self.assert_same(borders(add_arrays(first, second)), expected)

    def test_concave_arrays_stay_concave(self):
        for size in SIZES:
            arrays = concave_samples(size)
            for first, second in zip(arrays, arrays[1:] + arrays[:1]):
                self.assertIs(is_concave(add_arrays(first, second)), True)
                for factor in (0, 1, 4, HUGE):
                    self.assertIs(is_concave(scale_array(first, factor)), True)

    def test_other_arrays_are_concave_only_when_scaled_by_0(self):
        for size in SIZES[1:]:
            for array in other_samples(size):
                self.assertIs(is_concave(scale_array(array, 0)), True)
                self.assertIs(is_concave(scale_array(array, 6)), False)

    def test_a_sum_may_be_concave_although_a_part_is_not(self):
        for size in SIZES[1:]:
            for rhombus in RHOMBUSES[size]:
                array = dented(size, rhombus)
                for other in concave_samples(size):
                    total = add_arrays(array, other)
                    self.assertIs(is_concave(total), all(amount >= 0 for amount in defined_slacks(total).values()))
