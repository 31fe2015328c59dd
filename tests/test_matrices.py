"""threerims.matrices: products, determinants, minors and primes, edges and wrong values."""

import itertools
import time

from threerims import matrices
from threerims.errors import InvalidIndex, InvalidMatrix, InvalidPrime, InvalidSize, SizeMismatch
from threerims.matrices import (
    check_matrix,
    check_prime,
    determinant,
    identity,
    is_matrix,
    is_prime,
    minor,
    product,
)
from tests.helper import (
    HUGE,
    LIMIT,
    PRIMES,
    SIZES,
    THOUSAND_DIGITS,
    Numbers,
    TestCase,
    choices,
    defined_product,
    doubled,
    greatest,
    not_integers,
    permuted_determinant,
    permuted_minor,
    replaced,
    sample_matrices,
    sign_of,
    some_matrix,
    wrong_matrices,
)

def wrong_indices(size):
    """Return values that are not a nonempty ascending tuple of indices."""
    found = [value for label, value in not_integers() if label != "tuple of one"]
    found += [0, 1, HUGE, (), (-1,), (size,), (HUGE,), (-THOUSAND_DIGITS,), (1, 0), (0, 0), (size - 1, size)]
    found += [(0, size), tuple(range(size + 1)), tuple(range(1, size + 1)), tuple(range(-1, size)), [0], [0, 1]]
    found += [(True,), (False,), (None,), ("0",), (0, True), (0, None), ((0,),), (0, (1,)), (0, doubled(0)), {0}]
    return found


class IsMatrix(TestCase):

    def test_constants(self):
        self.assert_same(matrices.MAX_ENTRY, 10 ** 60)
        self.assert_same(matrices.MAX_PRIME, 97)

    def test_matrices(self):
        for size in SIZES:
            for matrix in sample_matrices(size):
                self.assertIs(is_matrix(matrix), True)
                self.assertIsNone(check_matrix(matrix))

    def test_greatest_entries(self):
        for size in SIZES:
            zero = ((0,) * size,) * size
            for line, column in itertools.product(range(size), repeat=2):
                for entry in (LIMIT, LIMIT - 1, -LIMIT, LIMIT + 1, -LIMIT - 1, THOUSAND_DIGITS):
                    matrix = replaced(zero, line, replaced(zero[line], column, entry))
                    self.assertIs(is_matrix(matrix), -LIMIT <= entry <= LIMIT)

    def test_every_size(self):
        for size in range(10):
            self.assertIs(is_matrix(((3,) * size,) * size), 1 <= size <= 6)

    def test_wrong_values(self):
        for value in wrong_matrices():
            self.assertTrue(is_matrix(value) is False)
            self.assert_raises_with(InvalidMatrix, "value", value, check_matrix, value)


class IsPrime(TestCase):

    def test_numbers(self):
        for value in range(-100, 300):
            self.assertIs(is_prime(value), value in PRIMES)
            if value in PRIMES:
                self.assertIsNone(check_prime(value))
            else:
                self.assert_raises_with(InvalidPrime, "value", value, check_prime, value)

    def test_other_values(self):
        wrong = [value for _, value in not_integers()]
        for value in wrong + [101, 103, 10 ** 9 + 7, HUGE, -HUGE, THOUSAND_DIGITS, -2, -97]:
            self.assertTrue(is_prime(value) is False)
            self.assert_raises_with(InvalidPrime, "value", value, check_prime, value)


class Identity(TestCase):

    def test_every_size(self):
        for size in SIZES:
            found = identity(size)
            self.assertIs(is_matrix(found), True)
            self.assertEqual(len(found), size)
            for line, column in itertools.product(range(size), repeat=2):
                self.assert_same(found[line][column], int(line == column))

    def test_identity_changes_nothing(self):
        for size in SIZES:
            for matrix in sample_matrices(size)[:30]:
                self.assert_same(product(identity(size), matrix), matrix)
                self.assert_same(product(matrix, identity(size)), matrix)
            self.assert_same(determinant(identity(size)), 1)

    def test_wrong_sizes(self):
        for size in [value for _, value in not_integers()] + [0, -1, 7, HUGE, -HUGE, THOUSAND_DIGITS]:
            self.assert_raises_with(InvalidSize, "value", size, identity, size)


class Product(TestCase):

    def test_products(self):
        for size in SIZES:
            found = sample_matrices(size)
            for left, right in zip(found, found[5:] + found[:5]):
                self.assert_same(product(left, right), defined_product(left, right))

    def test_entries_may_exceed_the_limit(self):
        for size in SIZES:
            largest = ((LIMIT,) * size,) * size
            self.assert_same(product(largest, largest), ((size * LIMIT * LIMIT,) * size,) * size)

    def test_order_of_the_factors(self):
        self.assert_same(product(((0, 1), (0, 0)), ((0, 0), (0, 1))), ((0, 1), (0, 0)))
        self.assert_same(product(((0, 0), (0, 1)), ((0, 1), (0, 0))), ((0, 0), (0, 0)))

    def test_different_sizes(self):
        for one, two in itertools.permutations(SIZES, 2):
            self.assert_raises(SizeMismatch, {"sizes": (one, two)}, product, identity(one), identity(two))

    def test_wrong_matrices(self):
        for value in wrong_matrices():
            for other in (((1,),), identity(2), (), None, doubled(0), ((LIMIT + 1,),)):
                self.assert_raises_with(InvalidMatrix, "value", value, product, value, other)
            for other in (((1,),), identity(2)):
                self.assert_raises_with(InvalidMatrix, "value", value, product, other, value)


class Determinant(TestCase):

    def test_determinants(self):
        for size in SIZES:
            for matrix in sample_matrices(size):
                self.assert_same(determinant(matrix), permuted_determinant(matrix))

    def test_all_small_matrices_of_size_2(self):
        for a, b, c, d in itertools.product(range(-2, 3), repeat=4):
            self.assert_same(determinant(((a, b), (c, d))), a * d - b * c)

    def test_all_matrices_of_size_3_with_entries_0_and_1(self):
        for entries in itertools.product((0, 1), repeat=9):
            matrix = (entries[:3], entries[3:6], entries[6:])
            self.assert_same(determinant(matrix), permuted_determinant(matrix))

    def test_permuted_lines(self):
        for size in SIZES:
            for order in itertools.permutations(range(size)):
                matrix = tuple(identity(size)[line] for line in order)
                self.assert_same(determinant(matrix), sign_of(order))

    def test_determinant_of_a_product(self):
        for size in SIZES:
            found = [matrix for matrix in sample_matrices(size) if greatest(matrix) < 10 ** 20]
            for left, right in zip(found, found[3:]):
                self.assert_same(determinant(product(left, right)), determinant(left) * determinant(right))

    def test_wrong_matrices(self):
        for value in wrong_matrices():
            self.assert_raises_with(InvalidMatrix, "value", value, determinant, value)


class Minor(TestCase):

    def test_minors_of_every_size(self):
        for size in (1, 2, 3, 4):
            for matrix in sample_matrices(size)[::5]:
                for lines, columns in itertools.product(choices(size), repeat=2):
                    if len(lines) == len(columns):
                        found = minor(matrix, lines, columns)
                        self.assert_same(found, permuted_minor(matrix, lines, columns))

    def test_minors_of_large_matrices(self):
        for size in (5, 6):
            for matrix in sample_matrices(size)[::11]:
                for lines, columns in list(itertools.product(choices(size), repeat=2))[::7]:
                    if len(lines) == len(columns):
                        found = minor(matrix, lines, columns)
                        self.assert_same(found, permuted_minor(matrix, lines, columns))

    def test_smallest_and_largest_minors(self):
        for size in SIZES:
            for matrix in sample_matrices(size):
                every = tuple(range(size))
                self.assert_same(minor(matrix, every, every), determinant(matrix))
                for line, column in itertools.product(every, repeat=2):
                    self.assert_same(minor(matrix, (line,), (column,)), matrix[line][column])

    def test_minors_of_a_product(self):
        for size in SIZES[:-1]:
            found = [matrix for matrix in sample_matrices(size) if greatest(matrix) < 10 ** 20]
            for left, right in list(zip(found, found[3:]))[::9]:
                total = product(left, right)
                for lines, columns in list(itertools.product(choices(size), repeat=2))[::5]:
                    if len(lines) == len(columns):
                        between = [each for each in choices(size) if len(each) == len(lines)]
                        expected = sum(minor(left, lines, each) * minor(right, each, columns) for each in between)
                        self.assert_same(minor(total, lines, columns), expected)

    def test_different_numbers_of_lines_and_columns(self):
        for size in SIZES:
            for lines, columns in itertools.product(choices(size), repeat=2):
                if len(lines) != len(columns):
                    expected = {"sizes": (len(lines), len(columns))}
                    self.assert_raises(SizeMismatch, expected, minor, identity(size), lines, columns)

    def test_wrong_indices(self):
        for size in SIZES:
            matrix, good = identity(size), [(0,), (size - 1,), tuple(range(size))]
            for value in wrong_indices(size):
                for other in good + [(), (size,), None, doubled(0)]:
                    self.assert_raises_with(InvalidIndex, "value", value, minor, matrix, value, other)
                for other in good:
                    self.assert_raises_with(InvalidIndex, "value", value, minor, matrix, other, value)

    def test_wrong_matrices(self):
        for value in wrong_matrices():
            for lines, columns in (((0,), (0,)), ((9,), (0,)), (None, None), (doubled(0), ()), ((0,), (0, 1))):
                self.assert_raises_with(InvalidMatrix, "value", value, minor, value, lines, columns)


class Times(TestCase):

    def test_largest_inputs(self):
        matrix = some_matrix(Numbers(9), 6, LIMIT)
        every = tuple(range(6))
        for call, *args in ((determinant, matrix), (product, matrix, matrix), (minor, matrix, every, every)):
            start = time.process_time()
            call(*args)
            self.assertLess(time.process_time() - start, 5)
