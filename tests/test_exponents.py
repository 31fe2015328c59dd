"""threerims.exponents: orders, exponents and certificates against all minors; [52], [53], [60] and [61]."""

import itertools
import time

from threerims.errors import InvalidCertificate, InvalidIndex, InvalidMatrix, InvalidPrime, SingularMatrix
from threerims.exponents import certificate, check_certificate, exponents, least_orders, order
from threerims.matrices import determinant, identity, product
from tests.helper import (
    HUGE,
    LIMIT,
    PRIMES,
    SIZES,
    THOUSAND_DIGITS,
    Numbers,
    Plain,
    TestCase,
    defined_exponents,
    defined_orders,
    defined_product,
    doubled,
    doubled_list,
    greatest,
    matrix_of_exponents,
    not_integers,
    order_by_powers,
    permuted_determinant,
    regular_matrices,
    replaced,
    singular_matrices,
    some_matrix,
    some_partition,
    unit_matrix,
    wrong_matrices,
    wrong_primes,
)

ONE = ((1,),)


def certificate_fault(matrix, prime, value):
    """Return a list with the reason of InvalidCertificate for this value; it is empty for a certificate; [53]."""
    size = len(matrix)
    bound = prime ** (1 + order_by_powers(permuted_determinant(matrix), prime))
    if not isinstance(value, tuple) or len(value) != 2:
        return ["form"]
    for item in value:
        if not isinstance(item, tuple) or len(item) != size:
            return ["form"]
        for line in item:
            if not isinstance(line, tuple) or [part.__class__ for part in line] != [int] * size:
                return ["form"]
    if any(not 0 <= part < bound for item in value for line in item for part in line):
        return ["range"]
    if any(permuted_determinant(item) % prime == 0 for item in value):
        return ["unit"]
    total = defined_product(defined_product(value[0], matrix), value[1])
    places = list(itertools.product(range(size), repeat=2))
    if any(total[x][y] % bound for x, y in places if x != y) or any(total[x][x] % bound == 0 for x in range(size)):
        return ["diagonal"]
    orders = [order_by_powers(total[x][x], prime) for x in range(size)]
    return [] if orders == sorted(orders, reverse=True) else ["diagonal"]


def changed_certificates(value, bound):
    """Return the certificate with one change, in many ways; a few of the results are certificates."""
    found = [value[::-1], value + (value[0],), value[:1], list(value), value[0], (value, value), (value[0], None)]
    for at in (0, 1):
        item = value[at]
        size = len(item)
        found.extend(replaced(value, at, other) for other in (
            item[::-1], item[1:], item + item[:1], list(item), tuple(list(line) for line in item), identity(size),
            tuple(line[::-1] for line in item), tuple(zip(*item)), ((0,) * size,) * size, ((1,) * size,) * size,
            ((bound,) * size,) * size, ((-1,) * size,) * size, doubled(1), doubled_list(1), "x", Plain(), (), None))
        for x, y in itertools.product(range(size), repeat=2):
            here = item[x][y]
            for other in (here + 1, here - 1, (here + 1) % bound, 0, bound, bound - 1, here + bound, -here, True, None,
                          False, str(here), (here,), [here], THOUSAND_DIGITS, -THOUSAND_DIGITS, doubled(0)):
                found.append(replaced(value, at, replaced(item, x, replaced(item[x], y, other))))
    return found


def prime_power(matrix, prime):
    return prime ** (1 + order_by_powers(permuted_determinant(matrix), prime))


def other_determinant(matrix):
    """Return a prime that does not divide the determinant, or None."""
    return next((prime for prime in PRIMES if permuted_determinant(matrix) % prime), None)


class Order(TestCase):

    def test_small_numbers(self):
        for value, prime in itertools.product(range(-200, 201), PRIMES):
            if value:
                self.assert_same(order(value, prime), order_by_powers(value, prime))

    def test_powers(self):
        for prime in PRIMES:
            for exponent in (0, 1, 2, 19, 500):
                for factor in (1, -1, 101, -103):
                    self.assert_same(order(prime ** exponent * factor, prime), exponent)

    def test_large_numbers(self):
        self.assert_same(order(2 ** 3000, 2), 3000)
        self.assert_same(order(10 ** 999, 5), 999)
        self.assert_same(order(-10 ** 999, 97), 0)

    def test_wrong_primes(self):
        for prime in wrong_primes():
            for value in (12, 0, None, True, doubled(0)):
                self.assert_raises_with(InvalidPrime, "value", prime, order, value, prime)

    def test_wrong_values(self):
        for value in [value for _, value in not_integers()] + [0]:
            for prime in (2, 97):
                self.assert_raises_with(InvalidIndex, "value", value, order, value, prime)


class Exponents(TestCase):

    def test_least_orders_of_all_minors(self):
        for size in SIZES:
            for matrix in regular_matrices(size):
                for prime in (2, 3, 5, 97):
                    self.assert_same(least_orders(matrix, prime), defined_orders(matrix, prime))

    def test_exponents_of_all_minors(self):
        for size in SIZES:
            for matrix in regular_matrices(size)[::2]:
                for prime in (2, 3, 13, 97):
                    self.assert_same(exponents(matrix, prime), defined_exponents(matrix, prime))

    def test_every_prime(self):
        for size in (1, 2, 3):
            for prime in PRIMES:
                numbers = Numbers(prime)
                for spread in (0, 1, 4):
                    partition = some_partition(numbers, size, spread)
                    matrix = matrix_of_exponents(numbers, partition, prime)
                    self.assert_same(exponents(matrix, prime), partition)
                    for other in PRIMES:
                        if other != prime:
                            self.assert_same(exponents(matrix, other), (0,) * size)

    def test_all_small_matrices_of_size_2(self):
        for a, b, c, d in itertools.product(range(-3, 5), repeat=4):
            if a * d != b * c:
                matrix = ((a, b), (c, d))
                self.assert_same(exponents(matrix, 2), defined_exponents(matrix, 2))
                self.assert_same(least_orders(matrix, 3), defined_orders(matrix, 3))

    def test_exponents_are_differences_of_least_orders(self):
        for size in SIZES:
            for matrix in regular_matrices(size):
                orders = (0,) + least_orders(matrix, 2)
                steps = [after - before for before, after in zip(orders, orders[1:])]
                self.assert_same(exponents(matrix, 2), tuple(steps[::-1]))

    def test_exponents_form_a_nonnegative_partition_with_this_sum(self):
        for size in SIZES:
            for matrix, prime in itertools.product(regular_matrices(size), (2, 3, 97)):
                found = exponents(matrix, prime)
                self.assertEqual(list(found), sorted(found, reverse=True))
                self.assertGreaterEqual(found[-1], 0)
                self.assertEqual(sum(found), order_by_powers(permuted_determinant(matrix), prime))

    def test_matrices_whose_determinant_the_prime_does_not_divide(self):
        numbers = Numbers(11)
        for size in SIZES:
            for matrix in regular_matrices(size):
                for prime in (2, 5):
                    unit = unit_matrix(numbers, size)
                    other = some_matrix(numbers, size, 9)
                    if permuted_determinant(other) % prime:
                        unit = other
                    self.assert_same(exponents(unit, prime), (0,) * size)
                    for total in (product(unit, matrix), product(matrix, unit)):
                        if greatest(total) <= LIMIT:
                            self.assert_same(exponents(total, prime), exponents(matrix, prime))

    def test_greatest_entries(self):
        for size in SIZES:
            diagonal = tuple(tuple(LIMIT * (x == y) for y in range(size)) for x in range(size))
            self.assert_same(exponents(diagonal, 2), (60,) * size)
            self.assert_same(exponents(diagonal, 5), (60,) * size)
            self.assert_same(least_orders(diagonal, 2), tuple(range(60, 60 * size + 1, 60)))

    def test_exponents_far_above_the_order_of_each_entry(self):
        for size in SIZES:
            matrix = tuple(tuple(2 ** 199 * (x == y) + (y == x + 1) for y in range(size)) for x in range(size))
            self.assert_same(exponents(matrix, 2), (199 * size,) + (0,) * (size - 1))

    def test_wrong_arguments(self):
        for function in (least_orders, exponents, certificate):
            for value in wrong_matrices():
                for prime in (2, 1, None, doubled(0)):
                    self.assert_raises_with(InvalidMatrix, "value", value, function, value, prime)
            for prime in wrong_primes():
                for matrix in (ONE, ((0,),), identity(6), ((0,) * 6,) * 6):
                    self.assert_raises_with(InvalidPrime, "value", prime, function, matrix, prime)
            for size in SIZES:
                for matrix in singular_matrices(size):
                    for prime in (2, 97):
                        self.assert_raises(SingularMatrix, {}, function, matrix, prime)


class Certificate(TestCase):

    def test_certificates_are_as_the_definition_requires(self):
        for size in SIZES:
            for matrix in regular_matrices(size):
                for prime in (2, 3, 97):
                    self.assertEqual(certificate_fault(matrix, prime, certificate(matrix, prime)), [])

    def test_certificates_are_accepted(self):
        for size in SIZES:
            for matrix in regular_matrices(size):
                for prime in (2, 3, 5, 7, 97, other_determinant(matrix)):
                    if prime:
                        found = certificate(matrix, prime)
                        expected = exponents(matrix, prime)
                        self.assert_same(check_certificate(matrix, prime, found), expected)

    def test_greatest_entries(self):
        for size in SIZES:
            diagonal = tuple(tuple(LIMIT * (x == y) for y in range(size)) for x in range(size))
            full = some_matrix(Numbers(size), size, LIMIT)
            for matrix in (diagonal, full):
                for prime in (2, 5, 97):
                    found = certificate(matrix, prime)
                    self.assertEqual(certificate_fault(matrix, prime, found), [])
                    self.assert_same(check_certificate(matrix, prime, found), exponents(matrix, prime))

    def test_other_certificates_are_accepted(self):
        numbers = Numbers(12)
        for size in SIZES:
            partition = some_partition(numbers, size, 4)
            matrix = tuple(tuple(3 ** partition[x] * (x == y) for y in range(size)) for x in range(size))
            plain = (identity(size), identity(size))
            self.assert_same(check_certificate(matrix, 3, plain), partition)
            if partition[0]:
                twice = tuple(tuple(2 * item for item in line) for line in identity(size))
                self.assert_same(check_certificate(matrix, 3, (twice, identity(size))), partition)

    def test_certificates_with_one_change(self):
        reasons = set()
        for size in (1, 2, 3):
            for matrix in regular_matrices(size)[::4]:
                for prime in (2, 3):
                    for value in changed_certificates(certificate(matrix, prime), prime_power(matrix, prime)):
                        fault = certificate_fault(matrix, prime, value)
                        reasons.update(fault)
                        if fault:
                            self.assert_raises(InvalidCertificate, {"reason": fault[0]},
                                               check_certificate, matrix, prime, value)
                        else:
                            self.assert_same(check_certificate(matrix, prime, value), exponents(matrix, prime))
        self.assertEqual(reasons, {"form", "range", "unit", "diagonal"})

    def test_large_certificates_with_one_change(self):
        for size in (5, 6):
            matrix = regular_matrices(size)[-2]
            for value in changed_certificates(certificate(matrix, 2), prime_power(matrix, 2))[::3]:
                fault = certificate_fault(matrix, 2, value)
                if fault:
                    self.assert_raises(InvalidCertificate, {"reason": fault[0]}, check_certificate, matrix, 2, value)
                else:
                    self.assert_same(check_certificate(matrix, 2, value), exponents(matrix, 2))

    def test_first_reason_for_both_items_together(self):
        matrix, good = ((4, 0), (0, 1)), identity(2)
        form, far, even, wrong = ((1, 0), (0,)), ((8, 0), (0, 1)), ((2, 0), (0, 1)), ((1, 0), (1, 1))
        order_of_reasons = ((form, "form"), (far, "range"), (even, "unit"), (wrong, "diagonal"), (good, None))
        for (one, first), (two, second) in itertools.product(order_of_reasons, repeat=2):
            reasons = [reason for _, reason in order_of_reasons if reason and reason in (first, second)]
            if reasons and (one, two) != (wrong, wrong):
                self.assert_raises(InvalidCertificate, {"reason": reasons[0]}, check_certificate, matrix, 2, (one, two))
        self.assert_same(check_certificate(matrix, 2, (good, good)), (2, 0))

    def test_orders_must_not_rise(self):
        self.assert_raises(InvalidCertificate, {"reason": "diagonal"},
                           check_certificate, ((1, 0), (0, 2)), 2, (identity(2), identity(2)))
        turned = ((0, 1), (1, 0))
        self.assert_same(check_certificate(((1, 0), (0, 2)), 2, (turned, turned)), (1, 0))

    def test_range_of_the_entries(self):
        for prime, depth in ((2, 0), (2, 3), (97, 1)):
            bound = prime ** (depth + 1)
            matrix = ((prime ** depth,),)
            self.assert_same(check_certificate(matrix, prime, (((bound - 1,),), ONE)), (depth,))
            for entry, reason in ((bound, "range"), (-1, "range"), (0, "unit"), (bound + 1, "range"), (HUGE, "range")):
                self.assert_raises(InvalidCertificate, {"reason": reason},
                                   check_certificate, matrix, prime, (((entry,),), ONE))
                self.assert_raises(InvalidCertificate, {"reason": reason},
                                   check_certificate, matrix, prime, (ONE, ((entry,),)))

    def test_values_of_every_kind(self):
        for _, value in not_integers():
            for answer in (value, (value, value), (ONE, value), (value, ONE), ((value,), ONE), (ONE, ((value,),))):
                if answer != (ONE, ONE):
                    self.assert_raises(InvalidCertificate, {"reason": "form"}, check_certificate, ((6,),), 2, answer)

    def test_order_of_the_exceptions(self):
        for value in wrong_matrices():
            for prime, answer in ((2, None), (1, doubled(0)), (None, (ONE, ONE))):
                self.assert_raises_with(InvalidMatrix, "value", value, check_certificate, value, prime, answer)
        for prime in wrong_primes():
            for matrix in (ONE, ((0,),)):
                for answer in (None, doubled(0), (ONE, ONE)):
                    self.assert_raises_with(InvalidPrime, "value", prime, check_certificate, matrix, prime, answer)
        for size in SIZES:
            for matrix in singular_matrices(size):
                for answer in (None, doubled(0), (identity(size), identity(size))):
                    self.assert_raises(SingularMatrix, {}, check_certificate, matrix, 2, answer)


class Times(TestCase):

    def test_largest_inputs(self):
        full = some_matrix(Numbers(13), 6, LIMIT)
        deep = tuple(tuple(2 ** 199 * (x == y) + (y == x + 1) for y in range(6)) for x in range(6))
        calls = [(order, 2 ** 3321, 2), (order, THOUSAND_DIGITS - 1, 97)]
        for matrix, prime in itertools.product((full, deep), (2, 97)):
            calls += [(least_orders, matrix, prime), (exponents, matrix, prime), (certificate, matrix, prime)]
            calls += [(check_certificate, matrix, prime, certificate(matrix, prime))]
        self.assertNotEqual(determinant(full), 0)
        for call, *args in calls:
            start = time.process_time()
            call(*args)
            self.assertLess(time.process_time() - start, 5)
