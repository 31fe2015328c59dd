"""threerims.arrays: check_array and the functions that read entries."""

from threerims import arrays
from threerims.arrays import (
    add_arrays,
    borders,
    check_array,
    entry,
    flat_differences,
    is_array,
    is_concave,
    reflect,
    rotate,
    scale_array,
    size_of,
    slack,
    slacks,
)
from threerims.errors import InvalidArray, InvalidFactor, InvalidVertex, SizeMismatch
from tests.helper import (
    E,
    HUGE,
    SIZES,
    THOUSAND_DIGITS,
    Numbers,
    TestCase,
    bowl,
    defined_borders,
    doubled,
    make,
    not_integers,
    samples,
    some_array,
    vertices,
    wrong_arrays,
)


class CheckArray(TestCase):

    def test_arrays(self):
        for size in SIZES:
            for array in samples(size):
                self.assertIsNone(check_array(array))
                self.assertIs(is_array(array), True)
                self.assert_same(size_of(array), size)

    def test_concavity_and_borders_do_not_matter(self):
        numbers = Numbers(1)
        for size in SIZES:
            for _ in range(20):
                array = some_array(numbers, size, 10 ** 44)
                self.assertIsNone(check_array(array))
                self.assertIs(is_array(array), True)

    def test_every_size(self):
        for size in range(10):
            self.assertIs(is_array(make(size, lambda r, k: r - k)), 1 <= size <= 6)

    def test_wrong_values(self):
        for label, value, row in wrong_arrays():
            with self.subTest(label):
                self.assertTrue(is_array(value) is False)
                self.assert_raises(InvalidArray, {"row": row}, check_array, value)


class Readers(TestCase):

    def test_borders(self):
        for size in SIZES:
            for array in samples(size):
                first, second, third = borders(array)
                self.assert_same((first, second, third), defined_borders(array))
                self.assert_same((len(first), len(second), len(third)), (size, size, size))
                self.assert_same(sum(third), sum(first) + sum(second))
        self.assert_same(borders(((0,), (5, -3))), ((5,), (-8,), (-3,)))
        self.assert_same(borders(((0,), (2, 3), (3, 5, 5), (3, 5, 6, 6))), ((2, 1, 0), (2, 1, 0), (3, 2, 1)))

    def test_entries_at_every_vertex(self):
        for size in SIZES:
            for array in samples(size):
                for r, k in vertices(size):
                    self.assert_same(entry(array, (r, k)), array[r][k])

    def test_flat_differences_of_every_row(self):
        for size in SIZES:
            for array in samples(size):
                for row in range(size + 1):
                    expected = tuple(array[row][k + 1] - array[row][k] for k in range(row))
                    self.assert_same(flat_differences(array, row), expected)
                self.assert_same(flat_differences(array, 0), ())
                self.assert_same(flat_differences(array, size), borders(array)[1])


def wrong_vertices(size):
    """Return pairs (label, value) for values that are not vertices of a triangle of this size."""
    found = [(label, value) for label, value in not_integers() if label != "pair"]
    found.extend(("number", value) for value in (0, 1, -1, HUGE))
    found.extend(("one " + label, (value, 0)) for label, value in not_integers())
    found.extend(("row 1, " + label, (1, value)) for label, value in not_integers())
    found.extend(("row 0, " + label, (0, value)) for label, value in not_integers())
    inside = vertices(size)
    for r in range(-3, size + 4):
        for k in range(-3, size + 4):
            if (r, k) in inside:
                found.extend([("list", [r, k]), ("longer", (r, k, 0)), ("shorter", (r,)), ("inner", ((r, k),))])
            else:
                found.append(("outside", (r, k)))
    for big in (HUGE, -HUGE, THOUSAND_DIGITS, -THOUSAND_DIGITS):
        found.extend([("far", (big, 0)), ("far", (1, big)), ("far", (big, big))])
    return found


class WrongVerticesAndRows(TestCase):

    def test_wrong_vertices(self):
        for size in SIZES:
            for label, value in wrong_vertices(size):
                with self.subTest(label):
                    self.assert_raises_with(InvalidVertex, "value", value, entry, bowl(size), value)

    def test_wrong_rows(self):
        for size in SIZES:
            wrong = not_integers() + [("outside", row) for row in (-1, -2, -size - 1, size + 1, size + 2, HUGE, -HUGE)]
            for label, value in wrong:
                with self.subTest(label):
                    self.assert_raises_with(InvalidVertex, "value", value, flat_differences, bowl(size), value)


class WrongArrays(TestCase):

    def test_functions_of_one_array(self):
        for label, value, row in wrong_arrays():
            for function in (size_of, borders, slacks, is_concave, rotate, reflect):
                with self.subTest(label):
                    self.assert_raises(InvalidArray, {"row": row}, function, value)

    def test_functions_of_an_array_and_another_argument(self):
        later = (
            (entry, (1, 0), ((9, 9), [1, 0], None, True, doubled(1))),
            (flat_differences, 1, (9, -1, "1", None, True, doubled(1))),
            (slack, ("flat", 0, 0), (("flat", 9, 9), ["flat", 0, 0], None, True, doubled(1), doubled(1, width=3))),
            (scale_array, 2, (-1, "1", None, True, doubled(1))),
            (add_arrays, E, (((0,), (1, 2)), ((0,), (1,)), [], None, True, doubled(1))),
        )
        for label, value, row in wrong_arrays():
            for function, valid, invalid in later:
                with self.subTest(label):
                    for argument in (valid,) + invalid:
                        self.assert_raises(InvalidArray, {"row": row}, function, value, argument)

    def test_wrong_second_array(self):
        for label, value, row in wrong_arrays():
            for first in (E, ((0,), (1, 2)), bowl(6)):
                with self.subTest(label):
                    self.assert_raises(InvalidArray, {"row": row}, add_arrays, first, value)


class SizesAndFactors(TestCase):

    def test_different_sizes(self):
        for first in SIZES:
            for second in SIZES:
                if first != second:
                    self.assert_raises(SizeMismatch, {"sizes": (first, second)}, add_arrays, bowl(first), bowl(second))

    def test_wrong_factors(self):
        wrong = not_integers() + [("negative", value) for value in (-1, -2, -HUGE, -THOUSAND_DIGITS)]
        for label, factor in wrong:
            with self.subTest(label):
                self.assert_raises_with(InvalidFactor, "value", factor, scale_array, E, factor)

    def test_module_takes_its_size_from_the_partitions(self):
        self.assert_raises(InvalidArray, {"row": None}, arrays.check_array, make(7, lambda r, k: 0))
        self.assertIsNone(arrays.check_array(make(6, lambda r, k: 0)))
