"""[30] to [33] over many borders, and [20] to [22] for the solutions of their borders."""

import itertools

from threerims.arrays import (
    add_arrays,
    borders,
    flat_differences,
    is_concave,
    reflect,
    rotate,
    scale_array,
)
from threerims.concave import count_solutions, rank_of, solution_by_rank, solutions, third_borders
from threerims.partitions import add_partitions, negate, scale_partition, shift
from tests.helper import (
    HUGE,
    THOUSAND_DIGITS,
    Numbers,
    TestCase,
    agreeing_triples,
    differing_triples,
    some_partition,
    thirds,
)

SMALL = (1, 2, 3, 4)


def spread(partition):
    return partition[0] - partition[-1]


def scaled(triple, factor):
    return tuple(scale_partition(each, factor) for each in triple)


def wide_triples(size, many):
    """Return triples with sums that agree and spreads up to 20."""
    numbers = Numbers(400 + size)
    found = []
    while len(found) < many:
        a, b = some_partition(numbers, size, 20), some_partition(numbers, size, 20)
        c = sorted((a[at] + b[-1 - at] for at in range(size)), reverse=True)
        if size > 1:
            change = numbers.below(4)
            c[0], c[-1] = c[0] - change, c[-1] + change
        if c == sorted(c, reverse=True) and c[0] - c[-1] <= 20:
            found.append((a, b, tuple(c)))
    return found


def many_triples(size):
    return agreeing_triples(size) + wide_triples(size, 60)


class Solutions(TestCase):

    def test_solutions_are_concave_and_have_the_borders(self):
        for size in SMALL:
            for triple in many_triples(size):
                for array in solutions(*triple):
                    self.assertIs(is_concave(array), True)
                    self.assert_same(borders(array), triple)

    def test_no_solution_unless_the_sums_agree(self):
        for size in SMALL:
            for triple in differing_triples(size):
                self.assert_same(solutions(*triple), [])
                self.assert_same(count_solutions(*triple), 0)

    def test_rows_of_solutions_interlace(self):
        for size in SMALL:
            for triple in many_triples(size):
                for array in solutions(*triple):
                    rows = [flat_differences(array, row) for row in range(1, size + 1)]
                    for above, below in zip(rows, rows[1:]):
                        for at, item in enumerate(above):
                            self.assertTrue(below[at + 1] <= item <= below[at])


class SmallSizes(TestCase):

    def test_size_1_has_one_solution_if_the_sums_agree(self):
        for a, b, c in itertools.product((-2, 0, 3, HUGE), (0, 5, -HUGE), (-2, 0, 5, 8, HUGE, 2 * HUGE)):
            self.assert_same(count_solutions((a,), (b,), (c,)), int(a + b == c))

    def test_size_2_by_its_inequalities(self):
        for a, b, c in agreeing_triples(2) + wide_triples(2, 300):
            inside = max(a[1] + b[0], a[0] + b[1]) <= c[0] <= a[0] + b[0]
            self.assert_same(count_solutions(a, b, c), int(inside))

    def test_size_2_at_the_limits_of_its_inequalities(self):
        for first, second in itertools.product(range(21), repeat=2):
            a, b = (first, 0), (second, 0)
            total = first + second
            for c, expected in ((max(a + b) - 1, 0), (max(a + b), 1), (total, 1), (total + 1, 0)):
                if 2 * c >= total and 2 * c - total <= 20:
                    self.assert_same(count_solutions(a, b, (c, total - c)), expected)

    def test_size_3_solutions_differ_in_one_entry(self):
        most = 0
        for triple in many_triples(3):
            found = solutions(*triple)
            most = max(most, len(found))
            for rank, array in enumerate(found):
                self.assertEqual(array[2][1], found[0][2][1] + rank)
                self.assertEqual(array[:2] + array[3:], found[0][:2] + found[0][3:])
                self.assertEqual((array[2][0], array[2][2]), (found[0][2][0], found[0][2][2]))
        self.assertGreater(most, 5)


class Symmetries(TestCase):

    def test_triples_with_as_many_solutions(self):
        for size in SMALL:
            for a, b, c in many_triples(size):
                many = count_solutions(a, b, c)
                self.assertEqual(count_solutions(b, negate(c), negate(a)), many)
                self.assertEqual(count_solutions(c, negate(b), a), many)
                self.assertEqual(count_solutions(b, a, c), many)

    def test_amounts_that_are_added(self):
        for size in SMALL:
            for a, b, c in many_triples(size):
                for x, y in ((1, 0), (-4, 9), (HUGE, -HUGE), (THOUSAND_DIGITS, 1)):
                    found = count_solutions(shift(a, x), shift(b, y), shift(c, x + y))
                    self.assertEqual(found, count_solutions(a, b, c))

    def test_third_borders_of_exchanged_partitions(self):
        numbers = Numbers(6)
        for size in (1, 2, 3):
            for _ in range(15):
                a, b = some_partition(numbers, size, 20), some_partition(numbers, size, 20)
                self.assert_same(third_borders(a, b), third_borders(b, a))
                turned = tuple(sorted(negate(c) for c in third_borders(negate(a), negate(b))))
                self.assert_same(third_borders(a, b), turned)

    def test_third_borders_have_a_solution_and_no_others(self):
        numbers = Numbers(7)
        for size in (1, 2, 3):
            for _ in range(8):
                a, b = some_partition(numbers, size, 12), some_partition(numbers, size, 12)
                found = third_borders(a, b)
                for c in thirds(a, b, beyond=3):
                    if spread(c) <= 20:
                        self.assertEqual(c in found, count_solutions(a, b, c) > 0)

    def test_rotated_and_reflected_solutions_are_found(self):
        for size in SMALL:
            for triple in many_triples(size):
                found = solutions(*triple)
                for turned in ([rotate(array) for array in found], [reflect(array) for array in found]):
                    if turned:
                        self.assert_same(solutions(*borders(turned[0])), sorted(turned))
                        ranks = [rank_of(array) for array in turned]
                        self.assertEqual(sorted(ranks), list(range(len(found))))
                        for rank, array in zip(ranks, turned):
                            self.assert_same(solution_by_rank(*borders(array), rank), array)


class Multiples(TestCase):

    def test_multiples_have_a_solution_if_the_triple_has_one(self):
        for size in SMALL:
            for triple in agreeing_triples(size):
                most = max(spread(each) for each in triple)
                for factor in (1, 2, 3, 5, 20):
                    if factor * most <= 20:
                        found = count_solutions(*scaled(triple, factor))
                        self.assertEqual(found > 0, count_solutions(*triple) > 0)

    def test_number_of_solutions_of_multiples_of_size_3(self):
        checked = 0
        for triple in agreeing_triples(3):
            many = count_solutions(*triple)
            for factor in range(1, 20):
                if many and factor * max(spread(each) for each in triple) <= 20:
                    self.assertEqual(count_solutions(*scaled(triple, factor)), 1 + factor * (many - 1))
                    checked += many > 1
        self.assertGreater(checked, 20)

    def test_scaled_solutions_are_found_and_ranked(self):
        for size in SMALL:
            for triple in agreeing_triples(size):
                for factor in (2, 4):
                    if factor * max(spread(each) for each in triple) <= 20:
                        larger = solutions(*scaled(triple, factor))
                        for array in solutions(*triple):
                            self.assertIn(scale_array(array, factor), larger)
                            self.assertEqual(larger[rank_of(scale_array(array, factor))], scale_array(array, factor))

    def test_sums_of_solutions_are_found_and_ranked(self):
        for size in SMALL:
            solved = [triple for triple in agreeing_triples(size) if count_solutions(*triple)]
            for one, two in zip(solved, solved[1:] + solved[:1]):
                total = tuple(add_partitions(x, y) for x, y in zip(one, two))
                if max(spread(each) for each in total) <= 20:
                    found = solutions(*total)
                    for first, second in itertools.product(solutions(*one), solutions(*two)):
                        array = add_arrays(first, second)
                        self.assertIn(array, found)
                        self.assertEqual(found[rank_of(array)], array)
