"""threerims.chains: conjugates, chains against all minors, and raises; [57] and [70] to [72]."""

import itertools
import time

from threerims.chains import chain, chain_of, conjugate, is_chain, raises_of
from threerims.errors import (
    InvalidChain,
    InvalidMatrix,
    InvalidPartition,
    InvalidPrime,
    InvalidTableau,
    SingularMatrix,
    SizeMismatch,
)
from threerims.exponents import exponents
from threerims.matrices import identity, product
from threerims.tableaux import content, fits, outer_shape
from tests.helper import (
    HUGE,
    LIMIT,
    PRIMES,
    SIZES,
    THOUSAND_DIGITS,
    Numbers,
    TestCase,
    all_tableaux,
    defined_exponents,
    defined_fits,
    defined_product,
    doubled,
    doubled_list,
    empty_tableau,
    greatest,
    matrix_of_exponents,
    not_integers,
    partitions_from,
    raised,
    regular_matrices,
    replaced,
    singular_matrices,
    some_partition,
    wrong_matrices,
    wrong_nonnegatives,
    wrong_primes,
    wrong_tableaux,
)


def defined_conjugate(partition):
    return tuple(sum(item >= m for item in partition) for m in range(1, partition[0] + 1))


def defined_chain(left, right, prime):
    """Return the chain of two matrices, by [70], from all minors of W(t)."""
    total = defined_product(left, right)
    found = []
    for t in range(defined_exponents(right, prime)[0] + 1):
        wide = [[prime ** t * item for item in line] + list(other) for line, other in zip(left, total)]
        found.append(defined_exponents(wide, prime))
    return tuple(found)


def is_listed(value):
    """Return whether the value is a tuple of nonnegative partitions of one size."""
    if not isinstance(value, tuple) or not value:
        return False
    for item in value:
        if not isinstance(item, tuple) or not 1 <= len(item) <= 6 or [x.__class__ for x in item] != [int] * len(item):
            return False
        if list(item) != sorted(item, reverse=True) or item[-1] < 0 or len(item) != len(value[0]):
            return False
    return True


def defined_raises(value):
    """Return the raises if the value is a chain by the words of is_chain, and None otherwise."""
    if not is_listed(value):
        return None
    width, steps = value[-1][0], len(value) - 1
    rises = [[new - old for old, new in zip(before, after)] for before, after in zip(value, value[1:])]
    if any(rise not in (0, 1) for row in rises for rise in row) or width > 60 or any(sum(row) == 0 for row in rises):
        return None

    def h(t, m):
        if t > steps:
            return 0
        return sum(new == m and old == m - 1 for old, new in zip(value[t - 1], value[t]))

    if any(h(t, m) for t in range(1, steps + 1) for m in range(1, min(t, width + 1))):
        return None
    tableau = tuple(tuple(h(t, m) for t in range(1, m + 1)) for m in range(1, width + 1))
    base = defined_conjugate(value[0])
    return tableau if defined_fits(base + (0,) * (width - len(base)), tableau) else None


def steps_from(partition):
    """Return all partitions that a step can lead to, with no entry raised among them."""
    found = [tuple(x + y for x, y in zip(partition, rise)) for rise in itertools.product((0, 1), repeat=len(partition))]
    return [each for each in found if list(each) == sorted(each, reverse=True)]


def all_climbs(size, high, steps):
    """Return all tuples of partitions with steps that raise by 0 or 1, chains or not."""
    found = [(each,) for each in partitions_from(size, 0, high)]
    every = list(found)
    for _ in range(steps):
        found = [climb + (each,) for climb in found for each in steps_from(climb[-1])]
        every += found
    return every


def sample_chains():
    """Return chains of every size."""
    found = [((0,),), ((60,),), ((0,) * 6,), ((60, 59, 3, 2, 1, 0),), ((1, 0), (2, 1))]
    for size in SIZES:
        numbers = Numbers(50 + size)
        for spread in (1, 2, 3, 5):
            left = matrix_of_exponents(numbers, some_partition(numbers, size, spread), 2)
            right = matrix_of_exponents(numbers, some_partition(numbers, size, spread), 2)
            found.append(chain(left, right, 2))
    return found


def changed_chains(value):
    """Return the chain with one change, in many ways."""
    found = [value[1:], value[:-1], value[::-1], list(value), value + value[-1:], value[:1] + value, value + ((),),
             value + (None,), (value,), value + (doubled(0),), tuple(list(item) for item in value), doubled_list(0)]
    for at, item in enumerate(value):
        found += [replaced(value, at, other) for other in (item[1:], item + (0,), list(item), item[::-1], None, 3)]
        found += [value[:at] + value[at + 1:], value[:at] + value[at:at + 1] + value[at:], replaced(value, at, doubled(1))]
        for place, here in enumerate(item):
            for other in (here + 1, here - 1, here + 2, 0, -1, 60, 61, HUGE, True, None, str(here)):
                found.append(replaced(value, at, replaced(item, place, other)))
                if other.__class__ is int:
                    # The same change in all later partitions, so that the steps stay steps.
                    found.append(value[:at] + tuple(replaced(each, place, each[place] + other - here)
                                                    for each in value[at:]))
    return found


class Conjugate(TestCase):

    def test_conjugates(self):
        for size in SIZES:
            for partition in partitions_from(size, 0, 5 if size < 5 else 3):
                self.assert_same(conjugate(partition), defined_conjugate(partition))

    def test_no_entry_above_0(self):
        for size in SIZES:
            self.assert_same(conjugate((0,) * size), ())

    def test_conjugate_of_the_conjugate(self):
        for size in SIZES:
            for partition in partitions_from(size, 0, 6 if size < 4 else 2):
                found = conjugate(partition)
                if 1 <= len(found) <= 6:
                    self.assert_same(conjugate(found), tuple(item for item in partition if item))

    def test_long_conjugates(self):
        self.assert_same(conjugate((100000,)), (1,) * 100000)
        self.assert_same(conjugate((5000, 5000, 4000)), (3,) * 4000 + (2,) * 1000)

    def test_wrong_partitions(self):
        for label, value, position in wrong_nonnegatives():
            with self.subTest(label):
                self.assert_raises(InvalidPartition, {"position": position}, conjugate, value)


class Chain(TestCase):

    def test_chains_of_all_minors(self):
        for size in (1, 2, 3, 4):
            found = regular_matrices(size)[::(1, 1, 2, 6)[size - 1]]
            for left, right in zip(found, found[3:] + found[:3]):
                for prime in (2, 3):
                    if exponents(right, prime)[0] <= 9:
                        self.assert_same(chain(left, right, prime), defined_chain(left, right, prime))

    def test_chains_of_given_exponents(self):
        for size in (1, 2, 3, 4):
            numbers = Numbers(60 + size)
            for prime in (2, 5, 97):
                for _ in range(3):
                    left = matrix_of_exponents(numbers, some_partition(numbers, size, 3), prime)
                    right = matrix_of_exponents(numbers, some_partition(numbers, size, 3), prime)
                    self.assert_same(chain(left, right, prime), defined_chain(left, right, prime))

    def test_larger_chains_of_all_minors(self):
        for size in (5, 6):
            numbers = Numbers(70 + size)
            left = matrix_of_exponents(numbers, (3, 2, 1, 1, 0, 0)[:size], 2)
            right = matrix_of_exponents(numbers, (2, 2, 1, 0, 0, 0)[:size], 2)
            self.assert_same(chain(left, right, 2), defined_chain(left, right, 2))

    def test_first_and_last_partition(self):
        for size in SIZES:
            found = regular_matrices(size)
            for left, right in zip(found, found[5:] + found[:5]):
                for prime in (2, 3, 97):
                    made = chain(left, right, prime)
                    self.assertEqual(len(made), exponents(right, prime)[0] + 1)
                    self.assert_same(made[0], exponents(left, prime))
                    if greatest(defined_product(left, right)) <= LIMIT:
                        self.assert_same(made[-1], exponents(product(left, right), prime))

    def test_steps_raise_by_0_or_1_and_as_often_as_exponents_tell(self):
        for size in SIZES:
            found = regular_matrices(size)
            for left, right in zip(found, found[1:] + found[:1]):
                made, powers = chain(left, right, 2), exponents(right, 2)
                for t in range(1, len(made)):
                    rises = [new - old for old, new in zip(made[t - 1], made[t])]
                    self.assertTrue(set(rises) <= {0, 1})
                    self.assertEqual(sum(rises), sum(power >= t for power in powers))

    def test_raises_of_chains_of_matrices(self):
        checked = 0
        for size in SIZES:
            found = regular_matrices(size)
            for left, right in zip(found, found[4:] + found[:4]):
                for prime in (2, 3):
                    made = chain(left, right, prime)
                    width = made[-1][0]
                    if width <= 60:
                        self.assertIs(is_chain(made), True)
                        tableau = raises_of(made)
                        base = conjugate(made[0])
                        base = base + (0,) * (width - len(base))
                        self.assertIs(fits(base, tableau), True)
                        self.assert_same(outer_shape(base, tableau), conjugate(made[-1]))
                        powers = conjugate(exponents(right, prime))
                        self.assert_same(content(tableau), powers + (0,) * (width - len(powers)))
                        checked += len(made) > 2
        self.assertGreater(checked, 30)

    def test_every_prime(self):
        for prime in PRIMES:
            left, right = ((prime, 1), (0, prime)), ((prime, 0), (0, prime ** 2))
            self.assert_same(chain(left, right, prime), defined_chain(left, right, prime))
            self.assert_same(chain(((2, 0), (0, 1)), ((2, 0), (0, 2)), prime),
                             ((1, 0), (2, 1)) if prime == 2 else ((0, 0),))

    def test_greatest_entries(self):
        for size in SIZES:
            large = tuple(tuple(LIMIT * (x == y) for y in range(size)) for x in range(size))
            self.assert_same(chain(large, large, 2), tuple((60 + t,) * size for t in range(61)))
            self.assert_same(chain(large, large, 3), ((0,) * size,))

    def test_wrong_matrices(self):
        for value in wrong_matrices():
            for other, prime in ((identity(2), 2), (((0,),), None), (None, 4), (doubled(0), doubled(0))):
                self.assert_raises_with(InvalidMatrix, "value", value, chain, value, other, prime)
            for other, prime in ((identity(2), 2), (((0,),), None), (identity(6), 4)):
                self.assert_raises_with(InvalidMatrix, "value", value, chain, other, value, prime)

    def test_wrong_primes(self):
        for prime in wrong_primes():
            for left, right in ((identity(2), identity(2)), (identity(2), identity(3)), (((0,),), ((0,),))):
                self.assert_raises_with(InvalidPrime, "value", prime, chain, left, right, prime)

    def test_different_sizes(self):
        for one, two in itertools.permutations(SIZES, 2):
            for left in (identity(one), ((0,) * one,) * one):
                for right in (identity(two), ((0,) * two,) * two):
                    self.assert_raises(SizeMismatch, {"sizes": (one, two)}, chain, left, right, 2)

    def test_singular_matrices(self):
        for size in SIZES:
            for matrix in singular_matrices(size):
                for left, right in ((matrix, identity(size)), (identity(size), matrix), (matrix, matrix)):
                    self.assert_raises(SingularMatrix, {}, chain, left, right, 97)


class Raises(TestCase):

    def assert_as_defined(self, value):
        expected = defined_raises(value)
        if expected is None:
            self.assertTrue(is_chain(value) is False)
            self.assert_raises_with(InvalidChain, "value", value, raises_of, value)
        else:
            self.assertIs(is_chain(value), True)
            self.assert_same(raises_of(value), expected)
            self.assert_same(chain_of(value[0], expected), value)
        return expected is not None

    def test_all_small_climbs(self):
        for size, high, steps in ((1, 3, 4), (2, 2, 3), (3, 1, 3), (4, 1, 2)):
            seen = [self.assert_as_defined(value) for value in all_climbs(size, high, steps)]
            self.assertGreater(sum(seen), 5)
            self.assertIn(False, seen)

    def test_chains(self):
        for value in sample_chains():
            self.assertTrue(self.assert_as_defined(value))

    def test_chains_with_one_change(self):
        seen = []
        for value in sample_chains():
            if len(value) < 5:
                seen += [self.assert_as_defined(each) for each in changed_chains(value)]
        self.assertGreater(sum(seen), 50)
        self.assertIn(False, seen)

    def test_one_partition(self):
        for size in SIZES:
            for partition in partitions_from(size, 0, 3):
                self.assert_same(raises_of((partition,)), empty_tableau(partition[0]))
                self.assert_same(chain_of(partition, empty_tableau(partition[0])), (partition,))

    def test_last_partition_at_the_limit(self):
        for size in SIZES:
            for first, expected in ((59, True), (60, True), (61, False), (62, False), (THOUSAND_DIGITS, False)):
                one = ((first,) + (0,) * (size - 1),)
                self.assertEqual(self.assert_as_defined(one), expected)
                two = (raised((first - 1,) * size, 0), (first,) * size)
                self.assertEqual(self.assert_as_defined(two), expected)
        self.assertTrue(self.assert_as_defined(tuple((t,) * 6 for t in range(61))))
        self.assertFalse(self.assert_as_defined(tuple((t,) * 6 for t in range(62))))

    def test_steps_that_raise_nothing(self):
        self.assertFalse(self.assert_as_defined(((1, 0), (1, 0))))
        self.assertFalse(self.assert_as_defined(((1, 0), (2, 1), (2, 1))))
        self.assertFalse(self.assert_as_defined(((3, 3), (3, 3), (4, 4))))

    def test_steps_that_raise_to_less_than_their_number(self):
        self.assertFalse(self.assert_as_defined(((1, 0), (2, 0), (2, 1))))
        self.assertFalse(self.assert_as_defined(((0, 0), (1, 0), (1, 1))))
        self.assertTrue(self.assert_as_defined(((0, 0), (1, 0), (2, 0))))

    def test_values_of_every_kind(self):
        values = [value for _, value in not_integers()] + [0, HUGE, ((0,),) * 1000, ((0,), (0, 0)), ((0, 0), (0,)), ((),)]
        values += [(value,) for _, value, _ in wrong_nonnegatives()] + [((1, 0), value) for _, value in not_integers()]
        values += [((value, 0), (1, 0)) for _, value in not_integers()] + [((2, 1), (3, value)) for _, value in not_integers()]
        for value in values:
            self.assertFalse(self.assert_as_defined(value))


class ChainOf(TestCase):

    def test_all_small_bases_and_tableaux(self):
        for size, high, steps in ((1, 2, 3), (2, 2, 3), (3, 1, 3)):
            known = {}
            for value in all_climbs(size, high, steps):
                tableau = defined_raises(value)
                if tableau is not None:
                    self.assertNotIn((value[0], tableau), known)
                    known[value[0], tableau] = value
            for base in partitions_from(size, 0, high):
                for levels in range(4):
                    for tableau in all_tableaux(levels, 2 if levels < 3 else 1):
                        if (base, tableau) in known:
                            self.assert_same(chain_of(base, tableau), known[base, tableau])
                        else:
                            self.assert_raises_with(InvalidTableau, "value", tableau, chain_of, base, tableau)

    def test_levels_beyond_the_last_partition(self):
        for size in SIZES:
            for first in (0, 1, 4):
                base = (first,) + (0,) * (size - 1)
                for levels in (0, 1, 3, 4, 5, 60):
                    if levels == first:
                        self.assert_same(chain_of(base, empty_tableau(levels)), (base,))
                    else:
                        self.assert_raises(InvalidTableau, {}, chain_of, base, empty_tableau(levels))

    def test_more_raises_than_entries(self):
        for size in SIZES:
            for many in range(size + 3):
                tableau = ((many,),)
                if 1 <= many <= size:
                    expected = ((0,) * size, (1,) * many + (0,) * (size - many))
                    self.assert_same(chain_of((0,) * size, tableau), expected)
                else:
                    self.assert_raises_with(InvalidTableau, "value", tableau, chain_of, (0,) * size, tableau)
            for many in (HUGE, THOUSAND_DIGITS):
                self.assert_raises(InvalidTableau, {}, chain_of, (1,) * size, ((0,), (many, 0)))

    def test_long_chains(self):
        for size in SIZES:
            tableau = tuple((0,) * at + (size,) for at in range(60))
            self.assert_same(chain_of((0,) * size, tableau), tuple((t,) * size for t in range(61)))

    def test_large_bases(self):
        for base in ((61,), (HUGE,), (THOUSAND_DIGITS, 0)):
            for levels in (0, 1, 60):
                self.assert_raises(InvalidTableau, {}, chain_of, base, empty_tableau(levels))

    def test_wrong_bases(self):
        for label, value, position in wrong_nonnegatives():
            with self.subTest(label):
                for tableau in (empty_tableau(2), None, doubled(0)):
                    self.assert_raises(InvalidPartition, {"position": position}, chain_of, value, tableau)

    def test_wrong_tableaux(self):
        for value in wrong_tableaux():
            for base in ((1, 0), (0,), (HUGE,)):
                self.assert_raises_with(InvalidTableau, "value", value, chain_of, base, value)


class Times(TestCase):

    def test_largest_inputs(self):
        deep = tuple(tuple(2 ** 199 * (x == y) + (y == x + 1) for y in range(6)) for x in range(6))
        long = tuple((t,) * 6 for t in range(61))
        wide = tuple((60,) * (at // 60) + (at % 60,) + (0,) * (5 - at // 60) for at in range(360))
        calls = [(chain, deep, deep, 2), (is_chain, long), (raises_of, long), (chain_of, long[0], raises_of(long))]
        calls += [(is_chain, wide), (is_chain, ((0,) * 6,) * 100000), (conjugate, (10 ** 6,) * 6)]
        for call, *args in calls:
            start = time.process_time()
            call(*args)
            self.assertLess(time.process_time() - start, 5)
