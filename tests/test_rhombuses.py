"""threerims.arrays: rhombuses, slacks and concavity."""

import itertools

from threerims.arrays import is_concave, rhombus_vertices, rhombuses, slack, slacks
from threerims.errors import InvalidRhombus, InvalidSize
from tests.helper import (
    E,
    HUGE,
    RHOMBUSES,
    SIZES,
    THOUSAND_DIGITS,
    Numbers,
    TestCase,
    big_samples,
    bowl,
    concave_samples,
    defined_concave,
    defined_slacks,
    dented,
    doubled,
    not_integers,
    other_samples,
    samples,
    some_array,
    vertices,
    wrong_rhombuses,
)


class Rhombuses(TestCase):

    def test_all_rhombuses_of_every_size(self):
        for size in SIZES:
            self.assert_same(rhombuses(size), tuple(sorted(RHOMBUSES[size])))
            self.assertEqual(len(rhombuses(size)), 3 * size * (size - 1) // 2)

    def test_smallest_sizes(self):
        self.assert_same(rhombuses(1), ())
        self.assert_same(rhombuses(3), (
            ("flat", 0, 0), ("flat", 1, 0), ("flat", 1, 1),
            ("left", 1, 1), ("left", 2, 1), ("left", 2, 2),
            ("right", 1, 0), ("right", 2, 0), ("right", 2, 1),
        ))

    def test_wrong_sizes(self):
        outside = [("outside", size) for size in (0, -1, 7, 8, HUGE, -HUGE, THOUSAND_DIGITS)]
        for label, size in not_integers() + outside:
            with self.subTest(label):
                self.assert_raises_with(InvalidSize, "value", size, rhombuses, size)

    def test_vertices_of_every_rhombus(self):
        for size in SIZES:
            for rhombus, expected in RHOMBUSES[size].items():
                self.assert_same(rhombus_vertices(rhombus), expected)

    def test_vertices_by_the_table(self):
        self.assert_same(rhombus_vertices(("flat", 2, 1)), (((3, 1), (3, 2)), ((2, 1), (4, 2))))
        self.assert_same(rhombus_vertices(("left", 3, 2)), (((3, 2), (4, 2)), ((3, 1), (4, 3))))
        self.assert_same(rhombus_vertices(("right", 4, 2)), (((4, 2), (5, 3)), ((4, 3), (5, 2))))

    def test_vertices_of_wrong_values(self):
        for label, value in wrong_rhombuses(6):
            with self.subTest(label):
                self.assert_raises_with(InvalidRhombus, "value", value, rhombus_vertices, value)


class Slacks(TestCase):

    def test_every_slack(self):
        for size in SIZES:
            for array in samples(size):
                expected = defined_slacks(array)
                for rhombus in expected:
                    self.assert_same(slack(array, rhombus), expected[rhombus])
                self.assert_same(slacks(array), tuple(sorted(expected.items())))

    def test_every_vertex_counts_as_it_should(self):
        for size in SIZES:
            flat = tuple((0,) * (r + 1) for r in range(size + 1))
            for r, k in vertices(size)[1:]:
                array = flat[:r] + (flat[r][:k] + (1,) + flat[r][k + 1:],) + flat[r + 1:]
                for rhombus, (ends, tips) in RHOMBUSES[size].items():
                    self.assert_same(slack(array, rhombus), ((r, k) in ends) - ((r, k) in tips))

    def test_size_1_has_no_slacks(self):
        self.assert_same(slacks(((0,), (-4, 9))), ())

    def test_wrong_rhombuses(self):
        for size in SIZES:
            for label, value in wrong_rhombuses(size):
                with self.subTest(label):
                    self.assert_raises_with(InvalidRhombus, "value", value, slack, bowl(size), value)

    def test_rhombuses_of_larger_triangles(self):
        for size in SIZES[:-1]:
            for rhombus in set(RHOMBUSES[6]) - set(RHOMBUSES[size]):
                self.assert_raises_with(InvalidRhombus, "value", rhombus, slack, bowl(size), rhombus)

    def test_rhombus_that_cannot_be_visited(self):
        for value in (("flat", 0, doubled(0)), ("flat", doubled(0), 0), (doubled("flat"), 0, 0), doubled(0, width=3)):
            self.assert_raises_with(InvalidRhombus, "value", value, slack, E, value)


class Concavity(TestCase):

    def test_concave_arrays(self):
        for size in SIZES:
            for array in concave_samples(size) + big_samples(size)[:2]:
                self.assertIs(is_concave(array), True)

    def test_other_arrays(self):
        for size in SIZES[1:]:
            for array in other_samples(size) + big_samples(size)[2:]:
                self.assertIs(is_concave(array), False)

    def test_one_negative_slack_is_enough(self):
        for size in SIZES[1:]:
            for rhombus in RHOMBUSES[size]:
                array = dented(size, rhombus)
                negative = [each for each, amount in slacks(array) if amount < 0]
                self.assertEqual(negative, [rhombus])
                self.assertIs(is_concave(array), False)

    def test_size_1_is_always_concave(self):
        numbers = Numbers(2)
        for _ in range(50):
            self.assertIs(is_concave(some_array(numbers, 1, HUGE)), True)

    def test_all_small_arrays_of_size_2(self):
        for a, b, c, d, e in itertools.product(range(-1, 3), repeat=5):
            array = ((0,), (a, b), (c, d, e))
            self.assertIs(is_concave(array), defined_concave(array))
            self.assertIs(is_concave(array), a + b >= d and a + d >= b + c and b + d >= a + e)

    def test_arrays_near_the_border(self):
        numbers = Numbers(3)
        for size in SIZES[1:]:
            for array in concave_samples(size):
                for _ in range(20):
                    r, k = vertices(size)[1 + numbers.below(len(vertices(size)) - 1)]
                    near = array[r][:k] + (array[r][k] + numbers.between(-1, 1),) + array[r][k + 1:]
                    changed = array[:r] + (near,) + array[r + 1:]
                    self.assertIs(is_concave(changed), defined_concave(changed))
