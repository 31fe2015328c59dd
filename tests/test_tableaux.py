"""threerims.tableaux: [54] to [56] read out literally, and the arrays of [62]."""

import itertools
import time

from threerims import tableaux as module
from threerims.concave import count_solutions, solutions
from threerims.errors import InvalidArray, InvalidPartition, InvalidTableau, SizeMismatch
from threerims.tableaux import array_of, content, fits, is_fair, is_steep, is_tableau, outer_shape, tableau_of
from tests.helper import (
    E,
    HUGE,
    SIZES,
    THOUSAND_DIGITS,
    Numbers,
    TestCase,
    all_tableaux,
    concave_samples,
    defined_array,
    defined_borders,
    defined_concave,
    defined_content,
    defined_fair,
    defined_fits,
    defined_shape,
    defined_steep,
    doubled,
    empty_tableau,
    make,
    other_samples,
    partitions_from,
    plus,
    raised,
    replaced,
    some_partition,
    tableaux_with,
    thirds,
    tried_solutions,
    wrong_arrays,
    wrong_bases,
    wrong_tableaux,
)

WITH_BASE = (outer_shape, is_steep, fits, array_of)
ALONE = (content, is_fair)
LEVELS = (0, 1, 2, 7, 59, 60)


def some_tableau(numbers, size, high):
    return tuple(tuple(numbers.between(0, high) for _ in range(at)) for at in range(1, size + 1))


def some_base(numbers, size, spread):
    return raised(some_partition(numbers, size, spread), numbers.between(-spread, spread))


def fitting_pairs(size):
    """Return pairs of a base and a tableau that fits it, made from concave arrays."""
    found = []
    for array in concave_samples(size):
        lifted = make(size, lambda r, k: array[r][k] + (k - r) * (array[size][size - 1] - array[size][size]))
        rises = [[row[at + 1] - row[at] for at in range(len(row) - 1)] + [0] for row in lifted]
        levels = tuple(tuple(rises[j][i] - rises[j - 1][i] for i in range(j)) for j in range(1, size + 1))
        found.append((defined_borders(lifted)[0], levels))
    return found


def changed_tableaux(tableau):
    """Return the tableau with one number changed, in every way."""
    found = []
    for at, level in enumerate(tableau):
        for place, here in enumerate(level):
            found += [replaced(tableau, at, replaced(level, place, here + by)) for by in (1, -1, 2, HUGE) if here + by >= 0]
    return found


class IsTableau(TestCase):

    def test_constant(self):
        self.assert_same(module.MAX_LEVELS, 60)

    def test_tableaux(self):
        numbers = Numbers(21)
        for size in range(61):
            for tableau in (empty_tableau(size), some_tableau(numbers, size, 3), some_tableau(numbers, size, HUGE)):
                self.assertIs(is_tableau(tableau), True)
                self.assert_same(content(tableau), defined_content(tableau))

    def test_more_levels(self):
        for size in (61, 62, 100):
            self.assertIs(is_tableau(empty_tableau(size)), False)

    def test_wrong_values(self):
        for value in wrong_tableaux():
            self.assertTrue(is_tableau(value) is False)
            for function in ALONE:
                self.assert_raises_with(InvalidTableau, "value", value, function, value)
            for function in WITH_BASE:
                for base in ((), (0,), (2, 1), (0,) * 60):
                    self.assert_raises_with(InvalidTableau, "value", value, function, base, value)


class Shapes(TestCase):

    def test_content_and_outer_shape(self):
        numbers = Numbers(22)
        for size in LEVELS:
            for high in (0, 1, 5, THOUSAND_DIGITS):
                tableau, base = some_tableau(numbers, size, high), some_base(numbers, size, 9)
                self.assert_same(content(tableau), defined_content(tableau))
                self.assert_same(outer_shape(base, tableau), defined_shape(base, tableau))

    def test_one_number(self):
        for size in (1, 2, 5):
            for j in range(1, size + 1):
                for i in range(1, j + 1):
                    one = replaced(empty_tableau(size), j - 1, tuple(int(at == i) for at in range(1, j + 1)))
                    self.assert_same(content(one), tuple(int(at == i) for at in range(1, size + 1)))
                    self.assert_same(outer_shape((4,) * size, one), tuple(4 + (at == j) for at in range(1, size + 1)))

    def test_no_levels(self):
        self.assert_same(content(()), ())
        self.assert_same(outer_shape((), ()), ())
        self.assert_same(is_fair(()), True)
        self.assert_same(is_steep((), ()), True)
        self.assert_same(fits((), ()), True)


class Fits(TestCase):

    def assert_as_defined(self, base, tableau):
        self.assert_same(is_steep(base, tableau), defined_steep(base, tableau))
        self.assert_same(is_fair(tableau), defined_fair(tableau))
        self.assert_same(fits(base, tableau), defined_fits(base, tableau))
        return defined_steep(base, tableau), defined_fair(tableau)

    def test_all_small_tableaux(self):
        seen = set()
        for size, high in ((1, 3), (2, 2), (3, 1)):
            bases = partitions_from(size, -1, 2)
            for tableau, base in itertools.product(all_tableaux(size, high), bases):
                seen.add(self.assert_as_defined(base, tableau))
        self.assertEqual(len(seen), 4)

    def test_larger_numbers(self):
        seen = set()
        for tableau in all_tableaux(3, 2):
            for base in ((4, 2, 0), (2, 0, -2), (9, 1, 1), (0, 0, 0)):
                seen.add(self.assert_as_defined(base, tableau))
        self.assertEqual(len(seen), 4)

    def test_tableaux_that_fit_and_their_changes(self):
        seen = set()
        for size in SIZES:
            for base, tableau in fitting_pairs(size):
                self.assertEqual(self.assert_as_defined(base, tableau), (True, True))
                for other in changed_tableaux(tableau):
                    seen.add(self.assert_as_defined(base, other))
                for at in range(size):
                    other = replaced(base, at, base[at] - 1)
                    if other == tuple(sorted(other, reverse=True)):
                        seen.add(self.assert_as_defined(other, tableau))
        self.assertEqual(len(seen), 4)

    def test_many_levels(self):
        numbers = Numbers(23)
        for size in (20, 59, 60):
            for high in (0, 1, 3):
                self.assert_as_defined(some_base(numbers, size, 90), some_tableau(numbers, size, high))
            base = tuple(range(3 * size, 0, -3))
            ones = tuple(tuple(int(at == level) for at in range(level + 1)) for level in range(size))
            self.assertEqual(self.assert_as_defined(base, ones), (True, True))
            for at in range(0, size, 7):
                self.assert_as_defined(base, replaced(ones, at, tuple(item + (place == at) for place, item in enumerate(ones[at]))))
                self.assert_as_defined(base, replaced(ones, at, (0,) * (at + 1)))

    def test_negative_bases(self):
        for tableau in all_tableaux(2, 2):
            for base in partitions_from(2, -HUGE, 1 - HUGE) + [(HUGE, -HUGE), (-1, -THOUSAND_DIGITS)]:
                self.assert_as_defined(base, tableau)


class BaseErrors(TestCase):

    def test_wrong_bases(self):
        for value, position in wrong_bases():
            for function in WITH_BASE:
                for tableau in (empty_tableau(3), None, doubled(0), ((-1,),)):
                    self.assert_raises(InvalidPartition, {"position": position}, function, value, tableau)

    def test_different_sizes(self):
        for one, two in itertools.permutations((0, 1, 2, 5, 6, 7, 60), 2):
            for function in WITH_BASE:
                self.assert_raises(SizeMismatch, {"sizes": (one, two)}, function, (0,) * one, empty_tableau(two))

    def test_bases_of_60_items(self):
        for size in (0, 1, 6, 7, 59, 60):
            self.assert_same(fits((-3,) * size, empty_tableau(size)), True)
            self.assert_same(outer_shape((-3,) * size, empty_tableau(size)), (-3,) * size)


class Arrays(TestCase):

    def test_arrays_of_tableaux_that_fit(self):
        for size in SIZES:
            for base, tableau in fitting_pairs(size):
                array = array_of(base, tableau)
                self.assert_same(array, defined_array(base, tableau))
                self.assertTrue(defined_concave(array))
                self.assert_same(defined_borders(array), (base, content(tableau), outer_shape(base, tableau)))
                self.assert_same(tableau_of(array), tableau)

    def test_all_small_tableaux(self):
        for size, high in ((1, 3), (2, 2), (3, 1)):
            for tableau, base in itertools.product(all_tableaux(size, high), partitions_from(size, -1, 2)):
                if defined_fits(base, tableau):
                    array = array_of(base, tableau)
                    self.assert_same(array, defined_array(base, tableau))
                    self.assert_same(tableau_of(array), tableau)
                else:
                    self.assert_raises_with(InvalidTableau, "value", tableau, array_of, base, tableau)

    def test_tableaux_of_arrays(self):
        many = 0
        for size in SIZES:
            for array in concave_samples(size):
                base, second, third = defined_borders(array)
                if second[-1] < 0:
                    self.assert_raises(InvalidArray, {"row": None}, tableau_of, array)
                else:
                    tableau = tableau_of(array)
                    self.assertTrue(defined_fits(base, tableau))
                    self.assert_same((defined_content(tableau), defined_shape(base, tableau)), (second, third))
                    self.assert_same(array_of(base, tableau), array)
                    many += 1
        self.assertGreater(many, 6)

    def test_as_many_solutions_as_tableaux_that_fit(self):
        for size, high in ((1, 4), (2, 3), (3, 2)):
            for a, b in itertools.product(partitions_from(size, -1, high - 1), partitions_from(size, 0, high)):
                for c in thirds(a, b):
                    found = tableaux_with(a, b, c)
                    arrays = tried_solutions(a, b, c)
                    self.assertEqual(sorted(array_of(a, tableau) for tableau in found), arrays)
                    self.assertEqual(sorted(tableau_of(array) for array in arrays), sorted(found))

    def test_as_many_solutions_as_tableaux_that_fit_of_size_4(self):
        most = 0
        for a, b, c in (((3, 2, 1, 0), (3, 2, 1, 0), (5, 4, 2, 1)), ((2, 1, 0, 0), (3, 2, 0, 0), (4, 3, 1, 0)),
                        ((3, 2, 1, 0), (2, 1, 1, 0), (4, 3, 2, 1)), ((1, 0, -1, -1), (2, 2, 1, 0), (2, 2, 0, 0))):
            found = tableaux_with(a, b, c)
            self.assertEqual(len(found), count_solutions(a, b, c))
            self.assertEqual(sorted(array_of(a, tableau) for tableau in found), solutions(a, b, c))
            most = max(most, len(found))
        self.assertGreater(most, 2)

    def test_tableaux_that_do_not_fit(self):
        refused = 0
        for size in SIZES:
            for base, tableau in fitting_pairs(size)[:6]:
                for other in changed_tableaux(tableau):
                    if not defined_fits(base, other):
                        self.assert_raises_with(InvalidTableau, "value", other, array_of, base, other)
                        refused += 1
        self.assertGreater(refused, 100)

    def test_sizes_without_an_array(self):
        for size in (0, 7, 8, 59, 60):
            tableau = empty_tableau(size)
            self.assertTrue(fits((0,) * size, tableau))
            self.assert_raises_with(InvalidTableau, "value", tableau, array_of, (0,) * size, tableau)

    def test_sizes_that_differ_come_before_tableaux_that_do_not_fit(self):
        self.assert_raises(SizeMismatch, {"sizes": (1, 2)}, array_of, (0,), ((0,), (0, 5)))
        self.assert_raises(SizeMismatch, {"sizes": (2, 7)}, array_of, (1, 0), empty_tableau(7))

    def test_arrays_without_a_tableau(self):
        for label, value, row in wrong_arrays():
            with self.subTest(label):
                self.assert_raises(InvalidArray, {"row": row}, tableau_of, value)
        for size in SIZES:
            for array in other_samples(size):
                self.assert_raises(InvalidArray, {"row": None}, tableau_of, array)

    def test_second_borders_with_a_negative_entry(self):
        for size in SIZES:
            for low in (-2, -1, 0, 1):
                array = make(size, lambda r, k: low * k + 3 * r)
                if low < 0:
                    self.assert_raises(InvalidArray, {"row": None}, tableau_of, array)
                else:
                    expected = tuple((0,) * (at - 1) + (low,) for at in range(1, size + 1))
                    self.assert_same(tableau_of(array), expected)
        self.assert_same(tableau_of(E), ((1,), (0, 0)))

    def test_large_entries(self):
        for size in SIZES:
            for array in concave_samples(size)[:3]:
                large = make(size, lambda r, k: HUGE * array[r][k] + THOUSAND_DIGITS * k)
                self.assert_same(array_of(defined_borders(large)[0], tableau_of(large)), large)
                base, tableau = defined_borders(large)[0], tableau_of(large)
                self.assert_same(defined_array(base, tableau), large)

    def test_sums_of_tableaux(self):
        for size in SIZES:
            pairs = fitting_pairs(size)
            for (base, tableau), (other, second) in zip(pairs, pairs[1:]):
                total = plus(tableau, second)
                self.assert_same(fits(plus(base, other), total), True)
                found = array_of(plus(base, other), total)
                self.assert_same(found, plus(array_of(base, tableau), array_of(other, second)))


class Times(TestCase):

    def test_largest_inputs(self):
        numbers = Numbers(24)
        base, tableau = some_base(numbers, 60, THOUSAND_DIGITS), some_tableau(numbers, 60, THOUSAND_DIGITS)
        plain = empty_tableau(60)
        calls = [(is_tableau, tableau), (content, tableau), (is_fair, plain), (is_fair, tableau)]
        calls += [(function, base, each) for function in (outer_shape, is_steep, fits) for each in (tableau, plain)]
        for call, *args in calls:
            start = time.process_time()
            call(*args)
            self.assertLess(time.process_time() - start, 5)
