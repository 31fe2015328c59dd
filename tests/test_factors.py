"""threerims.factors: [63] read out literally, realize and check_realization, and [64]."""

import itertools
import time

from threerims.errors import (
    InvalidAnswer,
    InvalidPartition,
    InvalidPrime,
    InvalidTableau,
    LimitExceeded,
    SizeMismatch,
)
from threerims.concave import count_solutions
from threerims.exponents import exponents
from threerims.factors import check_realization, factors, lead, realize, tail
from threerims.inequalities import violated
from threerims.matrices import is_matrix, product
from threerims.tableaux import tableau_of
from tests.helper import (
    HUGE,
    PRIMES,
    SIZES,
    THOUSAND_DIGITS,
    Numbers,
    TestCase,
    agreeing_triples,
    all_tableaux,
    changed_tilings,
    concave_samples,
    defined_borders,
    defined_content,
    defined_exponents,
    defined_fits,
    defined_gap,
    defined_labels,
    defined_product,
    defined_sets,
    defined_shape,
    doubled,
    doubled_list,
    empty_tableau,
    greatest,
    known_tilings,
    make,
    not_integers,
    partitions_from,
    raised,
    regular_matrices,
    replaced,
    some_partition,
    tableaux_with,
    thirds,
    tiling_fault,
    tried_solutions,
    wrong_nonnegatives,
    wrong_primes,
    wrong_tableaux,
    wrong_tilings,
)

SMALL = (1, 2, 3, 4)
WORDS = ("sums", "matrices", "tiling")
ONE_TILING = ((("left", 1, 1),), None)


def square(size, entry):
    return tuple(tuple(entry(x, y) for y in range(1, size + 1)) for x in range(1, size + 1))


def defined_lead(base, prime):
    return square(len(base), lambda x, y: prime ** base[x - 1] if x == y else 0)


def defined_factor(i, tableau, prime):
    """Return factor i, counted from 1, by [63]."""
    size = len(tableau)
    diagonal = [1] * (i - 1) + [prime ** tableau[j - 1][i - 1] for j in range(i, size + 1)]
    return square(size, lambda x, y: diagonal[x - 1] if x == y else int(y == x + 1 and i <= x <= size - 1))


def defined_factors(tableau, prime):
    return tuple(defined_factor(i, tableau, prime) for i in range(1, len(tableau) + 1))


def defined_tail(tableau, prime):
    found = square(len(tableau), lambda x, y: int(x == y))
    for factor in defined_factors(tableau, prime):
        found = defined_product(found, factor)
    return found


def small_pairs(size):
    """Return pairs of a nonnegative base and a tableau that fits it, all with small numbers."""
    found = []
    high = (4, 2, 1, 1, 0, 0)[size - 1]
    for tableau in all_tableaux(size, high):
        for base in partitions_from(size, 0, 2):
            if defined_fits(base, tableau):
                found.append((base, tableau))
    numbers = Numbers(30 + size)
    for array in concave_samples(size)[:4]:
        low = min(array[size][size] - array[size][size - 1], 0), min(defined_borders(array)[0][-1], 0)
        lifted = make(size, lambda r, k: array[r][k] - k * low[0] - r * low[1])
        found.append((defined_borders(lifted)[0], tableau_of(lifted)))
    while len(found) > 60:
        found.pop(numbers.below(len(found)))
    return found


def nonnegative_triples(size):
    """Return triples of nonnegative partitions whose sums agree."""
    found = []
    for a, b, c in agreeing_triples(size):
        x, y = max(0, -a[-1]), max(0, -b[-1])
        a, b, c = raised(a, x), raised(b, y), raised(c, x + y)
        if c[-1] >= 0:
            found.append((a, b, c))
    return found


def changed_answers(tableau):
    """Return values that differ from the tableau in one place."""
    found = [tableau[1:], tableau[:-1], tableau + (empty_tableau(len(tableau) + 1)[-1],), list(tableau), None,
             doubled(0), doubled_list(0), empty_tableau(len(tableau)), tableau[::-1], ONE_TILING]
    for at, level in enumerate(tableau):
        found += [replaced(tableau, at, other) for other in (level[1:], level + (0,), list(level), level[::-1], None)]
        for place, here in enumerate(level):
            for other in (here + 1, here - 1, 0, True, False, None, str(here), HUGE, -HUGE, (here,)):
                found.append(replaced(tableau, at, replaced(level, place, other)))
        for other in range(at):
            if level[-1] and tableau[other]:
                moved = replaced(tableau, at, level[:-1] + (level[-1] - 1,))
                found.append(replaced(moved, other, tableau[other][:-1] + (tableau[other][-1] + 1,)))
    return found


class Matrices(TestCase):

    def test_lead(self):
        for size in SIZES:
            for base in partitions_from(size, 0, 3):
                for prime in (2, 3, 97):
                    self.assert_same(lead(base, prime), defined_lead(base, prime))

    def test_factors_and_tail(self):
        for size in SIZES:
            for base, tableau in small_pairs(size):
                for prime in (2, 5, 97):
                    self.assert_same(factors(base, tableau, prime), defined_factors(tableau, prime))
                    self.assert_same(tail(base, tableau, prime), defined_tail(tableau, prime))

    def test_every_prime(self):
        for prime in PRIMES:
            self.assert_same(lead((2, 1), prime), ((prime ** 2, 0), (0, prime)))
            self.assert_same(tail((1, 0), ((1,), (0, 1)), prime), ((prime, prime), (0, prime)))

    def test_entries_beyond_the_greatest_entry_of_a_matrix(self):
        for prime in (2, 97):
            base, tableau = (400, 0), ((500,), (300, 200))
            self.assert_same(lead(base, prime), defined_lead(base, prime))
            self.assert_same(factors(base, tableau, prime), defined_factors(tableau, prime))
            self.assert_same(tail(base, tableau, prime), defined_tail(tableau, prime))
            self.assertIs(is_matrix(lead(base, prime)), False)

    def test_exponents(self):
        for size in SIZES:
            for base, tableau in small_pairs(size)[::1 if size < 4 else 4]:
                for prime in (2, 97):
                    first, second = lead(base, prime), tail(base, tableau, prime)
                    self.assertEqual(defined_exponents(first, prime), base)
                    self.assertEqual(defined_exponents(second, prime), defined_content(tableau))
                    total = defined_product(first, second)
                    self.assertEqual(defined_exponents(total, prime), defined_shape(base, tableau))

    def test_exponents_by_the_program(self):
        for size in SIZES:
            for base, tableau in small_pairs(size):
                for prime in (2, 3):
                    first, second = lead(base, prime), tail(base, tableau, prime)
                    if greatest(second) <= 10 ** 20:
                        self.assert_same(exponents(second, prime), defined_content(tableau))
                        self.assert_same(exponents(product(first, second), prime), defined_shape(base, tableau))

    def test_wrong_bases(self):
        good = ((1,), (0, 1))
        for label, value, position in wrong_nonnegatives():
            with self.subTest(label):
                for prime in (2, 4, None):
                    self.assert_raises(InvalidPartition, {"position": position}, lead, value, prime)
                    for tableau in (good, None, doubled(0), empty_tableau(7)):
                        for function in (factors, tail):
                            self.assert_raises(InvalidPartition, {"position": position}, function, value, tableau, prime)

    def test_bases_without_an_entry(self):
        for function in (factors, tail):
            self.assert_raises(InvalidPartition, {"position": None}, function, (), (), 2)
            self.assert_raises(InvalidPartition, {"position": None}, function, (0,) * 7, empty_tableau(7), 2)

    def test_wrong_primes(self):
        for prime in wrong_primes():
            self.assert_raises_with(InvalidPrime, "value", prime, lead, (HUGE, 1), prime)
            for function in (factors, tail):
                self.assert_raises_with(InvalidPrime, "value", prime, function, (1, 0), ((1,), (0, 1)), prime)

    def test_wrong_tableaux(self):
        for value in wrong_tableaux():
            for base, prime in (((1, 0), 2), ((1, 0), 4), ((3,), doubled(0)), ((0,) * 6, None)):
                for function in (factors, tail):
                    self.assert_raises_with(InvalidTableau, "value", value, function, base, value, prime)

    def test_different_sizes(self):
        for one, two in itertools.product(SIZES, (0, 1, 2, 6, 7, 60)):
            # The second tableau, whose last level is too full, fits no base.
            tableaux = [empty_tableau(two), replaced(empty_tableau(two), two - 1, (HUGE,) * two)] if two > 1 else []
            for tableau, prime in itertools.product(tableaux or [empty_tableau(two)], (2, 4, None)):
                for function in (factors, tail):
                    if one != two:
                        self.assert_raises(SizeMismatch, {"sizes": (one, two)}, function, (0,) * one, tableau, prime)

    def test_tableaux_that_do_not_fit(self):
        for size, high in ((2, 2), (3, 1)):
            for tableau, base in itertools.product(all_tableaux(size, high), partitions_from(size, 0, 2)):
                for prime in (2, 4, None):
                    if not defined_fits(base, tableau):
                        for function in (factors, tail):
                            self.assert_raises_with(InvalidTableau, "value", tableau, function, base, tableau, prime)


class Realize(TestCase):

    def assert_realized(self, a, b, c, prime):
        found = realize(a, b, c, prime)
        self.assertIs(found.__class__, tuple)
        kind, value = found
        if sum(a) + sum(b) != sum(c):
            self.assert_same(found, ("sums", sum(a) + sum(b) - sum(c)))
        elif kind == "matrices":
            self.assertTrue(defined_fits(a, value))
            self.assert_same((defined_content(value), defined_shape(a, value)), (b, c))
        else:
            self.assertEqual(kind, "tiling")
            self.assertEqual(tiling_fault(len(a), value), [])
            self.assertLess(defined_gap(a, b, c, defined_sets(len(a), defined_labels(len(a), *value))), 0)
        self.assert_same(check_realization(a, b, c, prime, found), kind)
        return kind

    def test_triples_whose_sums_agree(self):
        for size in SMALL:
            for a, b, c in nonnegative_triples(size):
                kind = self.assert_realized(a, b, c, 2)
                self.assertEqual(kind == "matrices", bool(tried_solutions(a, b, c)))

    def test_all_small_triples(self):
        for size, high in ((1, 3), (2, 2), (3, 1)):
            for a, b, c in itertools.product(partitions_from(size, 0, high), repeat=3):
                kind = self.assert_realized(a, b, c, 5)
                self.assertEqual(kind == "matrices", bool(tried_solutions(a, b, c)))

    def test_the_prime_makes_no_difference(self):
        for size in SMALL:
            for a, b, c in nonnegative_triples(size)[::9]:
                self.assertEqual(len({self.assert_realized(a, b, c, prime) for prime in PRIMES}), 1)

    def test_realized_exponents(self):
        for size in SMALL:
            numbers = Numbers(40 + size)
            for _ in range(12):
                a, b = some_partition(numbers, size, 3), some_partition(numbers, size, 3)
                for c in [c for c in thirds(a, b) if c[-1] >= 0][::2]:
                    kind, value = realize(a, b, c, 3)
                    if kind == "matrices":
                        first, second = lead(a, 3), tail(a, value, 3)
                        self.assertEqual(exponents(first, 3), a)
                        self.assertEqual(exponents(second, 3), b)
                        self.assertEqual(exponents(product(first, second), 3), c)

    def test_spreads(self):
        for size in (2, 3, 4):
            narrow, wide = (20,) + (0,) * (size - 1), (21,) + (0,) * (size - 1)
            zero = (0,) * size
            self.assert_same(realize(narrow, zero, narrow, 2)[0], "matrices")
            self.assert_same(realize(narrow, zero, (19, 1) + zero[2:], 2)[0], "tiling")
            self.assert_same(realize(narrow, narrow, narrow, 2), ("sums", 20))
            for triple in itertools.product((narrow, wide), repeat=3):
                if wide in triple:
                    for prime in (2, 4, None, doubled(0)):
                        self.assert_raises(LimitExceeded, {"limit": 20}, realize, *triple, prime)

    def test_sizes(self):
        for size in SIZES:
            for spread in (0, 21):
                border = (spread,) + (0,) * (size - 1)
                for prime in (2, 4, None, doubled(0)):
                    if size > 4:
                        self.assert_raises(LimitExceeded, {"limit": 4}, realize, border, border, border, prime)
        self.assert_same(realize((1,) * 4, (2,) * 4, (3,) * 4, 2), ("matrices", tuple((0,) * at + (2,) for at in range(4))))

    def test_sums_of_1000_digits(self):
        found = realize((THOUSAND_DIGITS,) * 3, (HUGE,) * 3, (0,) * 3, 97)
        self.assert_same(found, ("sums", 3 * (THOUSAND_DIGITS + HUGE)))


class CommonErrors(TestCase):

    ANSWERS = (("sums", 1), ("matrices", ((0,),)), ("tiling", ONE_TILING), None, doubled(0))

    def assert_all_raise(self, error, fields, a, b, c, prime):
        self.assert_raises(error, fields, realize, a, b, c, prime)
        for answer in self.ANSWERS:
            self.assert_raises(error, fields, check_realization, a, b, c, prime, answer)

    def test_wrong_partitions(self):
        other = ((1, 0), (1, 0, 0, 0, 0, 0), (30, 0))
        for label, value, position in wrong_nonnegatives():
            with self.subTest(label):
                fields = {"position": position}
                for second, third in ((other[0], other[1]), (other[2], None), ((0, 1), True), (doubled(0), (-1,))):
                    self.assert_all_raise(InvalidPartition, fields, value, second, third, 4)
                for first, third in ((other[0], other[1]), (other[1], None), (other[2], (0, -1))):
                    self.assert_all_raise(InvalidPartition, fields, first, value, third, None)
                for first, second in ((other[0], other[0]), (other[0], other[1]), (other[1], other[2])):
                    self.assert_all_raise(InvalidPartition, fields, first, second, value, 2)

    def test_different_sizes(self):
        for sizes in itertools.product(SIZES, repeat=3):
            if len(set(sizes)) > 1:
                for spread in (0, 21):
                    triple = [(spread,) + (0,) * (size - 1) for size in sizes]
                    self.assert_all_raise(SizeMismatch, {"sizes": sizes}, *triple, 4)

    def test_wrong_primes(self):
        for prime in wrong_primes():
            for triple in (((1, 0), (1, 0), (2, 0)), ((1, 0), (1, 0), (0, 0)), ((2, 0), (0, 0), (1, 1))):
                self.assert_raises_with(InvalidPrime, "value", prime, realize, *triple, prime)
                for answer in self.ANSWERS:
                    self.assert_raises_with(InvalidPrime, "value", prime, check_realization, *triple, prime, answer)


class CheckRealization(TestCase):

    def assert_refused(self, triple, answer, part):
        self.assert_raises(InvalidAnswer, {"part": part}, check_realization, *triple, 2, answer)

    def assert_checked(self, triple, value):
        """Check an answer that begins with "matrices" against the words of DOC.md."""
        a, b, c = triple
        form = isinstance(value, tuple) and len(value) == len(a)
        for at, level in enumerate(value if form else ()):
            form = form and isinstance(level, tuple) and [part.__class__ for part in level] == [int] * (at + 1)
            form = form and min(level) >= 0
        if not form or not defined_fits(a, value):
            self.assert_refused(triple, ("matrices", value), "tableau")
            return "tableau"
        if defined_content(value) != b or defined_shape(a, value) != c:
            self.assert_refused(triple, ("matrices", value), "content")
            return "content"
        self.assert_same(check_realization(*triple, 2, ("matrices", value)), "matrices")
        return "matrices"

    def test_all_tableaux_that_realize(self):
        for size in (1, 2, 3):
            for a, b, c in nonnegative_triples(size):
                if max(a[0], b[0], c[0]) <= 4:
                    for tableau in tableaux_with(a, b, c):
                        self.assertEqual(self.assert_checked((a, b, c), tableau), "matrices")

    def test_all_small_tableaux(self):
        seen = set()
        for size, high in ((1, 3), (2, 2), (3, 1)):
            for tableau in all_tableaux(size, high):
                for a in partitions_from(size, 0, 2):
                    b, c = defined_content(tableau), defined_shape(a, tableau)
                    if list(b) == sorted(b, reverse=True) and list(c) == sorted(c, reverse=True):
                        seen.add(self.assert_checked((a, b, c), tableau))
                        seen.add(self.assert_checked((a, raised(b, 1), c), tableau))
                        seen.add(self.assert_checked((a, b, raised(c, 1)), tableau))
        self.assertEqual(seen, {"tableau", "content", "matrices"})

    def test_tableaux_with_one_change(self):
        seen = set()
        for size in SIZES:
            for base, tableau in small_pairs(size)[::6] + small_pairs(size)[-3:]:
                triple = (base, defined_content(tableau), defined_shape(base, tableau))
                seen.add(self.assert_checked(triple, tableau))
                for value in changed_answers(tableau):
                    seen.add(self.assert_checked(triple, value))
        self.assertEqual(seen, {"tableau", "content", "matrices"})

    def test_values_that_are_no_tableaux(self):
        for size in SIZES:
            zero = (0,) * size
            for value in wrong_tableaux()[::3] + [(), empty_tableau(size + 1), empty_tableau(60)]:
                self.assert_refused((zero, zero, zero), ("matrices", value), "tableau")
            self.assert_same(check_realization(zero, zero, zero, 2, ("matrices", empty_tableau(size))), "matrices")

    def test_no_limit_of_the_spread(self):
        wide = (THOUSAND_DIGITS, HUGE, 5, 3, 1, 0)
        self.assert_same(check_realization(wide, (0,) * 6, wide, 97, ("matrices", empty_tableau(6))), "matrices")
        self.assert_same(check_realization(wide, wide, wide, 97, ("sums", sum(wide))), "sums")

    def test_sums(self):
        for size in SIZES:
            zero = (0,) * size
            for c in (zero, raised(zero, 1), raised(zero, 3), (HUGE,) + zero[1:]):
                triple = (raised(zero, 1), zero, c)
                difference = size - sum(c)
                for value in (difference, -difference, difference + 1, 0, HUGE):
                    if value == difference != 0:
                        self.assert_same(check_realization(*triple, 2, ("sums", value)), "sums")
                    else:
                        self.assert_refused(triple, ("sums", value), "sums")
                for _, value in not_integers():
                    self.assert_refused(triple, ("sums", value), "sums")

    def test_tilings(self):
        seen = set()
        for size in (2, 3, 4, 6):
            zero = (0,) * size
            sets = {each: defined_sets(size, defined_labels(size, *each)) for each in known_tilings(size)}
            for triple in ((zero, zero, (size,) + zero[1:]), (raised(zero, 2), zero, tuple(range(size, 0, -1))),
                           (tuple(range(size, 0, -1)), zero, (size,) * size)):
                for tiling in known_tilings(size):
                    if defined_gap(*triple, sets[tiling]) < 0:
                        self.assert_same(check_realization(*triple, 2, ("tiling", tiling)), "tiling")
                        seen.add("tiling")
                    else:
                        self.assert_refused(triple, ("tiling", tiling), "inequality")
                        seen.add("inequality")
        self.assertEqual(seen, {"tiling", "inequality"})

    def test_values_that_are_no_tilings(self):
        for size in SIZES:
            triple = ((0,) * size, (0,) * size, (1,) * size)
            for value, _ in wrong_tilings(size)[::2]:
                self.assert_refused(triple, ("tiling", value), "tiling")
        for tiling in known_tilings(3)[::4]:
            for value in changed_tilings(3, tiling):
                if tiling_fault(3, value):
                    self.assert_refused(((0,) * 3, (0,) * 3, (1,) * 3), ("tiling", value), "tiling")

    def test_wrong_forms(self):
        words = ("", "array", "matrix", "Matrices", "matrices ", "sum", "tilings", "s", b"sums", 0, None, True)
        found = [value for _, value in not_integers()] + [0, 1, HUGE, "sums", "matrices", "tiling", "ab"]
        found += [(value, 1) for _, value in not_integers()] + [(word, 1) for word in words]
        for word in WORDS:
            found += [(word,), (word, 1, 1), [word, 1], (1, word), ((word,), 1), ([word], 1), ((word, 1),), {word: 1}]
            found += [(word, doubled(0), doubled(0)), (doubled(word), 1), (1, (word, 1))]
        for triple in (((2, 0), (0, 0), (1, 1)), ((1,), (1,), (3,)), ((0,) * 6, (0,) * 6, (0,) * 6)):
            for answer in found:
                self.assert_refused(triple, answer, "form")


class Products(TestCase):

    def test_exponents_of_products_have_a_solution(self):
        for size in SMALL:
            found = regular_matrices(size)
            for left, right in zip(found, found[7:] + found[:7]):
                for prime in (2, 3):
                    total = defined_product(left, right)
                    if greatest(total) <= 10 ** 60:
                        triple = [exponents(each, prime) for each in (left, right, total)]
                        if max(each[0] - each[-1] for each in triple) <= 20:
                            self.assertGreater(count_solutions(*triple), 0)
                            self.assertEqual(realize(*triple, prime)[0], "matrices")

    def test_products_satisfy_every_inequality(self):
        for size in SIZES[:-1]:
            found = regular_matrices(size)
            for left, right in zip(found, found[5:] + found[:5]):
                for prime in (2, 5):
                    triple = [defined_exponents(each, prime) for each in (left, right, defined_product(left, right))]
                    self.assert_same(violated(*triple), [])


class Times(TestCase):

    def test_largest_inputs(self):
        base, tableau = (500, 400, 300, 200, 100, 0), empty_tableau(6)[:5] + ((0, 0, 0, 0, 0, 900),)
        self.assertFalse(defined_fits(base, tableau))
        tableau = tuple((0,) * at + (700 - 100 * at,) for at in range(6))
        self.assertTrue(defined_fits(base, tableau))
        a, b, c = (20, 14, 7, 0), (20, 13, 7, 0), (30, 24, 17, 10)
        calls = [(lead, base, 97), (factors, base, tableau, 97), (tail, base, tableau, 97), (realize, a, b, c, 97)]
        calls += [(realize, (20, 0, 0, 0), (20, 0, 0, 0), (10, 10, 10, 10), 2)]
        for call, *args in calls:
            start = time.process_time()
            call(*args)
            self.assertLess(time.process_time() - start, 5)
