"""threerims.concave: every function against a list that is made by trying, edges and wrong values."""

import itertools
import time

from threerims import concave
from threerims.arrays import is_concave
from threerims.concave import count_solutions, entry_range, rank_of, solution_by_rank, solutions, third_borders
from threerims.errors import (
    InvalidArray,
    InvalidPartition,
    InvalidRank,
    InvalidVertex,
    LimitExceeded,
    SizeMismatch,
)
from tests.helper import (
    HUGE,
    SIZES,
    THOUSAND_DIGITS,
    Numbers,
    TestCase,
    agreeing_triples,
    bowl,
    concave_samples,
    dented,
    differing_triples,
    doubled,
    make,
    multiple,
    not_integers,
    partitions_from,
    raised,
    some_partition,
    thirds,
    tried_array,
    tried_solutions,
    vertices,
    wrong_arrays,
    wrong_partitions,
)

SMALL = (1, 2, 3, 4)

# Every function of three borders, with what follows the borders: a valid value and wrong ones.
WITH_BORDERS = (
    (solutions, ((),)),
    (count_solutions, ((),)),
    (solution_by_rank, ((0,), (-1,), (True,), (None,), (doubled(0),))),
    (entry_range, (((0, 0),), ((9, 9),), (True,), (None,), (doubled(0),))),
)


def all_triples(size):
    return agreeing_triples(size) + differing_triples(size)


def stairs(size, spread):
    """Return a partition with this spread."""
    return (spread,) + (spread // 2,) * (size - 2) + (0,)


def array_of_size_2(a, b, c):
    return ((0,), (a[0], c[0]), (a[0] + a[1], a[0] + a[1] + b[0], c[0] + c[1]))


class Lists(TestCase):

    def test_constants(self):
        self.assert_same(concave.MAX_ENUMERATED_SIZE, 4)
        self.assert_same(concave.MAX_SPREAD, 20)

    def test_solutions_are_those_found_by_trying(self):
        for size in SMALL:
            for triple in all_triples(size):
                self.assert_same(solutions(*triple), tried_solutions(*triple))

    def test_the_triples_have_none_one_and_many_solutions(self):
        for size in SMALL:
            numbers = {len(tried_solutions(*triple)) for triple in all_triples(size)}
            self.assertIn(0, numbers)
            self.assertIn(1, numbers)
            self.assertEqual(max(numbers) > 1, size > 2)

    def test_one_pair_of_borders_with_every_third(self):
        a, b = (2, 1, 0, -1), (2, 1, 0, 0)
        for c in thirds(a, b):
            self.assert_same(solutions(a, b, c), tried_solutions(a, b, c))

    def test_solutions_are_ascending(self):
        for size in SMALL:
            for triple in agreeing_triples(size):
                found = solutions(*triple)
                self.assertEqual(found, sorted(set(found)))

    def test_number_of_solutions(self):
        for size in SMALL:
            for triple in all_triples(size):
                self.assert_same(count_solutions(*triple), len(tried_solutions(*triple)))

    def test_every_rank(self):
        for size in SMALL:
            for triple in agreeing_triples(size):
                expected = tried_solutions(*triple)
                for rank, array in enumerate(expected):
                    self.assert_same(solution_by_rank(*triple, rank), array)
                    self.assert_same(rank_of(array), rank)

    def test_ranks_outside(self):
        for size in SMALL:
            for triple in all_triples(size):
                many = len(tried_solutions(*triple))
                for rank in (-1, -many - 1, many, many + 1, HUGE, -HUGE, THOUSAND_DIGITS):
                    self.assert_raises_with(InvalidRank, "value", rank, solution_by_rank, *triple, rank)

    def test_wrong_ranks(self):
        for triple in ((2, 1, 0), (2, 1, 0), (3, 2, 1)), ((1, 0), (1, 0), (2, 0)), ((1,), (1,), (3,)):
            for label, rank in not_integers():
                with self.subTest(label):
                    self.assert_raises_with(InvalidRank, "value", rank, solution_by_rank, *triple, rank)

    def test_entries_at_every_vertex(self):
        for size in SMALL:
            for triple in all_triples(size):
                found = tried_solutions(*triple)
                for r, k in vertices(size):
                    entries = [array[r][k] for array in found]
                    expected = (min(entries), max(entries)) if entries else None
                    self.assert_same(entry_range(*triple, (r, k)), expected)

    def test_wrong_vertices(self):
        for size in SMALL:
            outside = [("outside", pair) for pair in itertools.product(range(-2, size + 3), repeat=2)
                       if pair not in vertices(size)]
            outside += [("far", (HUGE, 0)), ("far", (HUGE, HUGE)), ("far", (0, -HUGE)), ("number", 0), ("number", 1)]
            outside += [("longer", (1, 0, 0)), ("list", [1, 0]), ("inner", ((1, 0), 0)), ("inner", (1, (0,)))]
            outside += [(label, value) for label, value in not_integers() if label != "pair"]
            outside += [(label, (value, 0)) for label, value in not_integers()]
            outside += [(label, (1, value)) for label, value in not_integers()]
            for triple in (agreeing_triples(size)[0], differing_triples(size)[0]):
                for label, vertex in outside:
                    with self.subTest(label):
                        self.assert_raises_with(InvalidVertex, "value", vertex, entry_range, *triple, vertex)


class RankOf(TestCase):

    def test_wrong_arrays(self):
        for label, value, row in wrong_arrays():
            with self.subTest(label):
                self.assert_raises(InvalidArray, {"row": row}, rank_of, value)

    def test_arrays_that_are_not_concave(self):
        for size in SIZES[1:]:
            for rhombus in [("flat", 0, 0), ("left", 1, 1), ("right", size - 1, 0)]:
                for array in (dented(size, rhombus), multiple(dented(size, rhombus), 30)):
                    self.assertIs(is_concave(array), False)
                    self.assert_raises(InvalidArray, {"row": None}, rank_of, array)

    def test_sizes(self):
        for size in SIZES:
            flat = make(size, lambda r, k: 3 * r)
            if size <= 4:
                self.assert_same(rank_of(flat), 0)
            else:
                self.assert_raises(LimitExceeded, {"limit": 4}, rank_of, flat)
                self.assert_raises(LimitExceeded, {"limit": 4}, rank_of, multiple(bowl(size), 30))

    def test_spread_of_every_border(self):
        for high in (10, 9):
            for spread, fits in ((20, True), (21, False), (22, False), (HUGE, False)):
                first, second = (spread - high, 0), (high, 0)
                for a, b, c in (
                    (first, second, (spread, 0)),
                    ((spread, 0), first, (spread, spread - high)),
                    (second, (spread, 0), (spread, high)),
                ):
                    array = array_of_size_2(a, b, c)
                    self.assertIs(is_concave(array), True)
                    if fits:
                        self.assert_same(rank_of(array), 0)
                    else:
                        self.assert_raises(LimitExceeded, {"limit": 20}, rank_of, array)

    def test_concave_samples(self):
        for size in SMALL:
            for array in concave_samples(size):
                a, b, c = concave.borders(array)
                if max(a[0] - a[-1], b[0] - b[-1], c[0] - c[-1]) <= 20:
                    self.assert_same(solution_by_rank(a, b, c, rank_of(array)), array)
                else:
                    self.assert_raises(LimitExceeded, {"limit": 20}, rank_of, array)


class ThirdBorders(TestCase):

    def test_those_with_a_solution(self):
        for size, high in ((1, 4), (2, 4), (3, 3)):
            for a, b in itertools.product(partitions_from(size, 0, high), repeat=2):
                expected = [c for c in thirds(a, b, beyond=2) if tried_solutions(a, b, c)]
                self.assert_same(third_borders(a, b), tuple(expected))

    def test_ascending_and_without_duplicates(self):
        numbers = Numbers(4)
        for size in (1, 2, 3):
            for _ in range(20):
                found = third_borders(some_partition(numbers, size, 20), some_partition(numbers, size, 20))
                self.assertEqual(found, tuple(sorted(set(found))))

    def test_raised_borders(self):
        numbers = Numbers(5)
        for size in (1, 2, 3):
            for x, y in ((-7, 3), (HUGE, -2 * HUGE), (THOUSAND_DIGITS, THOUSAND_DIGITS)):
                a, b = some_partition(numbers, size, 9), some_partition(numbers, size, 9)
                expected = tuple(raised(c, x + y) for c in third_borders(a, b))
                self.assert_same(third_borders(raised(a, x), raised(b, y)), expected)

    def test_spread_of_the_third_border_is_not_limited(self):
        self.assert_same(third_borders((20, 0), (20, 0)), tuple((c, 40 - c) for c in range(20, 41)))
        found = third_borders((20, 9, 0), (20, 10, 0))
        self.assertIn((40, 19, 0), found)
        self.assertEqual(found, tuple(sorted(found)))
        self.assertEqual(found, tuple(c for c in thirds((20, 9, 0), (20, 10, 0)) if tried_solutions(
            (20, 9, 0), (20, 10, 0), c)))

    def test_limits(self):
        for size in SIZES:
            for spread in (0, 20, 21, HUGE):
                wide = (spread,) + (0,) * (size - 1)
                expected = 3 if size > 3 else 20
                for a, b in ((wide, (0,) * size), ((0,) * size, wide), (wide, wide)):
                    if size <= 3 and (size == 1 or spread <= 20):
                        self.assertTrue(third_borders(a, b))
                    else:
                        self.assert_raises(LimitExceeded, {"limit": expected}, third_borders, a, b)

    def test_different_sizes(self):
        for first, second in itertools.permutations(SIZES, 2):
            for spread in (0, 30):
                a, b = (spread,) + (0,) * (first - 1), (spread,) + (0,) * (second - 1)
                self.assert_raises(SizeMismatch, {"sizes": (first, second)}, third_borders, a, b)

    def test_wrong_partitions(self):
        for label, value, position in wrong_partitions():
            expected = {"position": position}
            with self.subTest(label):
                for other in ((1, 0), (1, 0, 0, 0), (30, 0), (0, 1), None, doubled(0)):
                    self.assert_raises(InvalidPartition, expected, third_borders, value, other)
                for other in ((1, 0), (1, 0, 0, 0), (30, 0)):
                    self.assert_raises(InvalidPartition, expected, third_borders, other, value)


class CommonErrors(TestCase):

    def test_wrong_partitions(self):
        other = ((1, 0), (1, 0, 0, 0, 0), (30, 0))
        later = other + ((0, 1), None, doubled(0), True)
        for label, value, position in wrong_partitions():
            with self.subTest(label):
                for function, endings in WITH_BORDERS:
                    for ending in endings:
                        for second, third in zip(later, later[1:] + later[:1]):
                            self.assert_raises(InvalidPartition, {"position": position},
                                               function, value, second, third, *ending)
                        for first, third in zip(other * 2, later):
                            self.assert_raises(InvalidPartition, {"position": position},
                                               function, first, value, third, *ending)
                        for first, second in zip(other, other[1:] + other[:1]):
                            self.assert_raises(InvalidPartition, {"position": position},
                                               function, first, second, value, *ending)

    def test_different_sizes(self):
        for sizes in itertools.product(SIZES, repeat=3):
            if len(set(sizes)) > 1:
                for spread in (0, 21):
                    borders = [(spread,) + (0,) * (size - 1) for size in sizes]
                    for function, endings in WITH_BORDERS:
                        for ending in endings:
                            self.assert_raises(SizeMismatch, {"sizes": sizes}, function, *borders, *ending)

    def test_size_limit(self):
        for size in (5, 6):
            for spread in (0, 20, 21, HUGE):
                border = (spread,) + (0,) * (size - 1)
                for function, endings in WITH_BORDERS:
                    for ending in endings:
                        self.assert_raises(LimitExceeded, {"limit": 4}, function, border, border, border, *ending)

    def test_spread_limit(self):
        for size in (2, 3, 4):
            narrow, wide = stairs(size, 20), (21,) + (0,) * (size - 1)
            self.assertIsInstance(solutions(narrow, narrow, narrow), list)
            for borders in itertools.product((narrow, wide, raised(wide, -HUGE), multiple(wide, HUGE)), repeat=3):
                if borders != (narrow, narrow, narrow):
                    for function, endings in WITH_BORDERS:
                        for ending in endings:
                            self.assert_raises(LimitExceeded, {"limit": 20}, function, *borders, *ending)

    def test_spread_of_20_with_solutions(self):
        for size in (2, 3, 4):
            zero, border = (0,) * size, stairs(size, 20)
            for a, b, c in ((border, zero, border), (zero, border, border),
                            (border, tuple(-item for item in border[::-1]), zero)):
                self.assertEqual(len(solutions(a, b, c)), 1)
                for r, k in vertices(size):
                    entry = solutions(a, b, c)[0][r][k]
                    self.assert_same(entry_range(a, b, c, (r, k)), (entry, entry))

    def test_size_1_has_no_spread(self):
        for a, b in itertools.product((0, -HUGE, THOUSAND_DIGITS), repeat=2):
            array = ((0,), (a, a + b))
            self.assert_same(solutions((a,), (b,), (a + b,)), [array])
            self.assert_same(rank_of(array), 0)
            self.assert_same(solutions((a,), (b,), (a + b + 1,)), [])

    def test_spread_counts_and_not_the_entries(self):
        a, b, c = (HUGE + 20, HUGE, HUGE), (-HUGE, -HUGE, -HUGE - 20), (0, 0, 0)
        self.assert_same(solutions(a, b, c), [tried_array(a, b, c, {(2, 1): HUGE + 20})])


class Times(TestCase):
    """The largest inputs: what takes seconds here would not have been meant."""

    def assert_quick(self, call, *args):
        start = time.process_time()
        call(*args)
        self.assertLess(time.process_time() - start, 5)

    def test_largest_inputs(self):
        a, b, c = (20, 14, 7, 0), (20, 13, 7, 0), (30, 24, 17, 10)
        found = solutions(a, b, c)
        self.assertEqual(len(found), 170)
        self.assert_quick(solutions, a, b, c)
        for rank in (0, 85, 169):
            self.assertEqual(rank_of(found[rank]), rank)
            self.assert_quick(rank_of, found[rank])
        for vertex in vertices(4):
            self.assert_quick(entry_range, a, b, c, vertex)

    def test_largest_inputs_with_long_entries(self):
        borders = ((20, 14, 7, 0), (20, 13, 7, 0), (30, 24, 17, 10))
        a, b, c = (raised(border, x * THOUSAND_DIGITS) for border, x in zip(borders, (1, -3, -2)))
        self.assertEqual(count_solutions(a, b, c), 170)
        self.assert_quick(solutions, a, b, c)
        self.assert_quick(third_borders, a[:3], b[:3])

    def test_largest_third_borders(self):
        for b in ((20, 10, 0), (20, 0, 0), (20, 20, 0), (11, 10, -9)):
            self.assert_quick(third_borders, (20, 10, 0), b)
