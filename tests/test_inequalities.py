"""threerims.inequalities: gaps, certificates, violated inequalities and decisions; [40] to [42]."""

import itertools
import time

from threerims.arrays import slack
from threerims.concave import solutions
from threerims.errors import (
    InvalidAnswer,
    InvalidArray,
    InvalidPartition,
    InvalidTiling,
    LimitExceeded,
    SizeMismatch,
)
from threerims.inequalities import check_decision, decide, gap, slack_certificate, violated
from threerims.tilings import border_sets, tilings
from tests.helper import (
    E,
    HUGE,
    SIZES,
    THOUSAND_DIGITS,
    Numbers,
    TestCase,
    agreeing_triples,
    bowl,
    changed_tilings,
    concave_samples,
    defined_borders,
    defined_concave,
    defined_gap,
    defined_labels,
    defined_sets,
    defined_slacks,
    defined_tilings,
    dented,
    differing_triples,
    doubled,
    known_tilings,
    make,
    multiple,
    not_integers,
    raised,
    replaced,
    samples,
    some_partition,
    thirds,
    tiling_fault,
    tried_solutions,
    vertices,
    wrong_arrays,
    wrong_partitions,
    wrong_tilings,
)

SMALL = (1, 2, 3, 4)
KNOWN = (1, 2, 3, 4, 6)
FORMS = ("sums", "array", "tiling")
ONE_TILING = ((("left", 1, 1),), None)


def all_triples(size):
    """Return triples of sizes 1 to 4, with sums that agree and that do not, and some with a spread of more than 20."""
    found = agreeing_triples(size) + differing_triples(size)
    return found + [tuple(multiple(each, 50) for each in triple) for triple in found[::9]]


def larger_triples(size):
    """Return triples of any size, with sums that agree and that do not."""
    numbers = Numbers(500 + size)
    found = []
    for spread in (2, 4, 8, 30, HUGE, THOUSAND_DIGITS):
        for _ in range(6):
            a, b, c = (some_partition(numbers, size, spread) for _ in range(3))
            found.append((a, b, c))
            found.append((a, b, (sum(a) + sum(b),) + (0,) * (size - 1)))
            found.append((a, b, tuple(x + y for x, y in zip(a, b))))
    return found


def sets_of_tilings(size):
    """Return a dict from tilings that do not come from the program to their border sets."""
    return {tiling: defined_sets(size, defined_labels(size, *tiling)) for tiling in known_tilings(size)}


def is_descending(border):
    return list(border) == sorted(border, reverse=True)


def bordered_arrays(size):
    """Return arrays with partitions as borders, concave and not concave."""
    found = concave_samples(size)
    if size > 1:
        found += [dented(size, rhombus) for rhombus in (("flat", 0, 0), ("left", size - 1, 1), ("right", size - 1, 0))]
    for array in concave_samples(size):
        for r, k in vertices(size):
            if 0 < k < r < size:
                found.append(replaced(array, r, replaced(array[r], k, array[r][k] + (-1) ** k * 5)))
    return [array for array in found if all(is_descending(each) for each in defined_borders(array))]


def wrong_forms():
    """Return answers that are not a pair that begins with one of the three words."""
    words = ("", "sum", "Sums", "SUMS", "sums ", " sums", "arrays", "tilings", "matrices", "a", b"sums", 0, None, True)
    found = [value for _, value in not_integers()] + [0, 1, HUGE, "sums", "array", "tiling", "ab"]
    found += [(value, 1) for _, value in not_integers()] + [(word, 1) for word in words]
    for word in FORMS:
        found += [(word,), (word, 1, 1), [word, 1], (1, word), ((word,), 1), ([word], 1), ((word, 1),), {word: 1}]
        found += [(word, doubled(0), doubled(0)), (doubled(word), 1), (1, (word, 1))]
    return found


class Gap(TestCase):

    def test_gap_by_the_border_sets(self):
        for size in KNOWN:
            for triple in (all_triples(size)[::3] if size < 5 else larger_triples(size)):
                for tiling, sets in sets_of_tilings(size).items():
                    self.assert_same(gap(*triple, tiling), defined_gap(*triple, sets))

    def test_gap_of_size_5(self):
        for triple in larger_triples(5)[::6]:
            for tiling in tilings(5):
                sets = defined_sets(5, defined_labels(5, *tiling))
                self.assert_same(gap(*triple, tiling), defined_gap(*triple, sets))

    def test_gap_is_the_sum_of_the_slacks(self):
        concave = set()
        for size in SMALL + (5, 6):
            for array in bordered_arrays(size):
                amounts = defined_slacks(array)
                concave.add(defined_concave(array))
                for tiling in (tilings(5) if size == 5 else known_tilings(size)):
                    found = gap(*defined_borders(array), tiling)
                    self.assert_same(found, sum(amounts[rhombus] for rhombus in tiling[0]))
                    self.assertTrue(found >= 0 or not defined_concave(array))
        self.assertEqual(concave, {True, False})

    def test_sum_of_slacks_for_borders_that_are_no_partitions(self):
        for size in SMALL + (5, 6):
            for array in samples(size):
                amounts = defined_slacks(array)
                for tiling in (tilings(5)[::7] if size == 5 else known_tilings(size)):
                    expected = sum(amounts[rhombus] for rhombus in tiling[0])
                    self.assertEqual(defined_gap(*defined_borders(array), border_sets(size, tiling)), expected)
                    self.assertEqual(sum(amount for _, amount in slack_certificate(array, tiling)), expected)

    def test_wrong_tilings(self):
        for size in SIZES:
            border = tuple(range(size, 0, -1))
            for value, field in wrong_tilings(size):
                self.assert_raises(InvalidTiling, {"index": field}, gap, border, border, border, value)

    def test_tilings_of_another_size(self):
        for size, other in itertools.permutations(KNOWN, 2):
            border = (0,) * size
            for tiling in known_tilings(other):
                fault = tiling_fault(size, tiling)
                if fault:
                    self.assert_raises(InvalidTiling, {"index": fault[0]}, gap, border, border, border, tiling)
                else:
                    self.assert_same(gap(border, border, border, tiling), 0)


class Certificate(TestCase):

    def test_slacks_of_the_rhombuses(self):
        for size in KNOWN:
            for array in samples(size):
                amounts = defined_slacks(array)
                for tiling in known_tilings(size):
                    expected = tuple((rhombus, amounts[rhombus]) for rhombus in tiling[0])
                    self.assert_same(slack_certificate(array, tiling), expected)

    def test_order_and_slack(self):
        array = bowl(5)
        for tiling in tilings(5):
            found = slack_certificate(array, tiling)
            self.assertEqual(tuple(rhombus for rhombus, _ in found), tiling[0])
            self.assertEqual([amount for _, amount in found], [slack(array, rhombus) for rhombus in tiling[0]])

    def test_wrong_arrays(self):
        for label, value, row in wrong_arrays()[::2]:
            with self.subTest(label):
                for tiling in (ONE_TILING, ((), 0), None, doubled(0)):
                    self.assert_raises(InvalidArray, {"row": row}, slack_certificate, value, tiling)

    def test_wrong_tilings(self):
        for size in SIZES:
            for value, field in wrong_tilings(size):
                self.assert_raises(InvalidTiling, {"index": field}, slack_certificate, bowl(size), value)

    def test_an_array_need_not_be_concave(self):
        for rhombus in (("flat", 0, 0), ("left", 1, 1), ("right", 1, 0)):
            found = slack_certificate(dented(2, rhombus), ((rhombus,), None))
            self.assertEqual(found, ((rhombus, defined_slacks(dented(2, rhombus))[rhombus]),))
            self.assertLess(found[0][1], 0)


class Violated(TestCase):

    def test_violated_inequalities_in_their_order(self):
        for size in SMALL:
            sets = sets_of_tilings(size)
            for triple in all_triples(size) + larger_triples(size):
                expected = [tiling for tiling in defined_tilings(size) if defined_gap(*triple, sets[tiling]) < 0]
                self.assert_same(violated(*triple), expected)

    def test_size_5(self):
        found = tilings(5)
        sets = {tiling: defined_sets(5, defined_labels(5, *tiling)) for tiling in found}
        for triple in larger_triples(5):
            expected = [tiling for tiling in found if defined_gap(*triple, sets[tiling]) < 0]
            self.assert_same(violated(*triple), expected)

    def test_either_a_solution_or_a_violated_inequality(self):
        for size in SMALL:
            for triple in agreeing_triples(size):
                self.assertEqual(bool(violated(*triple)), not tried_solutions(*triple))

    def test_either_a_solution_or_a_violated_inequality_for_every_third_border(self):
        numbers = Numbers(8)
        for size in SMALL:
            for _ in range(6):
                a, b = some_partition(numbers, size, 5), some_partition(numbers, size, 5)
                for c in thirds(a, b):
                    self.assertEqual(bool(violated(a, b, c)), not solutions(a, b, c))

    def test_concave_arrays_violate_nothing(self):
        for size in SMALL + (5,):
            for array in concave_samples(size):
                self.assert_same(violated(*defined_borders(array)), [])

    def test_sums_that_do_not_agree(self):
        for size in SMALL + (5,):
            zero = (0,) * size
            self.assertIn(((), 1), violated(zero, zero, (1,) + zero[1:]))
            self.assert_same(violated(zero, raised(zero, 1), zero), [])

    def test_limit(self):
        for border in ((0,) * 6, (HUGE, 5, 4, 3, 2, 1)):
            self.assert_raises(LimitExceeded, {"limit": 5}, violated, border, border, border)


class Decide(TestCase):

    def test_every_decision_is_accepted_and_of_the_right_kind(self):
        kinds = set()
        for size in SMALL:
            sets = sets_of_tilings(size)
            for a, b, c in agreeing_triples(size) + differing_triples(size):
                answer = decide(a, b, c)
                kinds.add((size, answer[0]))
                if sum(a) + sum(b) != sum(c):
                    self.assert_same(answer, ("sums", sum(a) + sum(b) - sum(c)))
                elif tried_solutions(a, b, c):
                    self.assert_same((answer[0], len(answer)), ("array", 2))
                    self.assertIn(answer[1], tried_solutions(a, b, c))
                else:
                    self.assert_same((answer[0], len(answer)), ("tiling", 2))
                    self.assertLess(defined_gap(a, b, c, sets[answer[1]]), 0)
                self.assert_same(check_decision(a, b, c, answer), answer[0])
        expected = set(itertools.product(SMALL, FORMS)) - {(1, "tiling")}
        self.assertEqual(kinds, expected)

    def test_spread_of_20(self):
        zero = (0, 0, 0, 0)
        self.assert_same(decide((20, 7, 3, 0), zero, (20, 7, 3, 0))[0], "array")
        self.assert_same(decide((20, 7, 3, 0), zero, (20, 6, 4, 0))[0], "tiling")
        self.assert_same(decide((20, 7, 3, 0), zero, (20, 6, 4, 1)), ("sums", -1))

    def test_sums_of_1000_digits(self):
        answer = decide((THOUSAND_DIGITS,) * 3, (HUGE,) * 3, (0,) * 3)
        self.assert_same(answer, ("sums", 3 * (THOUSAND_DIGITS + HUGE)))

    def test_limits(self):
        for size in (5, 6):
            for spread in (0, 21):
                border = (spread,) + (0,) * (size - 1)
                self.assert_raises(LimitExceeded, {"limit": 4}, decide, border, border, border)
        for size in (2, 3, 4):
            narrow, wide = (20,) + (0,) * (size - 1), (21,) + (0,) * (size - 1)
            for borders in itertools.product((narrow, wide), repeat=3):
                if wide in borders:
                    self.assert_raises(LimitExceeded, {"limit": 20}, decide, *borders)


class CheckDecision(TestCase):

    def assert_refused(self, triple, answer, part):
        self.assert_raises(InvalidAnswer, {"part": part}, check_decision, *triple, answer)

    def test_sums(self):
        for size in SIZES:
            triples = larger_triples(size) + (agreeing_triples(size) + differing_triples(size) if size < 5 else [])
            for a, b, c in triples:
                difference = sum(a) + sum(b) - sum(c)
                for value in (difference, -difference, difference + 1, difference - 1, 0, HUGE):
                    if value == difference != 0:
                        self.assert_same(check_decision(a, b, c, ("sums", value)), "sums")
                    else:
                        self.assert_refused((a, b, c), ("sums", value), "sums")

    def test_sums_that_are_no_integers(self):
        for c in ((2, 0), (1, 0), (1, 1), (3, 0)):
            for _, value in not_integers() + [("array", E), ("tiling", ONE_TILING)]:
                self.assert_refused(((1, 0), (1, 0), c), ("sums", value), "sums")

    def test_arrays(self):
        for size in SIZES:
            for array in concave_samples(size):
                triple = defined_borders(array)
                self.assert_same(check_decision(*triple, ("array", array)), "array")
                self.assert_refused(triple, ("array", array[:-1]), "array")
                self.assert_refused(triple, ("array", list(array)), "array")
                for r, k in vertices(size):
                    for change in (-1, 1, -HUGE, HUGE):
                        other = replaced(array, r, replaced(array[r], k, array[r][k] + change))
                        if (0 < k < r < size) and defined_concave(other):
                            self.assert_same(check_decision(*triple, ("array", other)), "array")
                        else:
                            self.assert_refused(triple, ("array", other), "array")

    def test_arrays_with_one_other_border(self):
        for size in SMALL:
            for triple in agreeing_triples(size)[::5]:
                for array in tried_solutions(*triple)[:2]:
                    for at in range(3):
                        for other in (raised(triple[at], 1), multiple(triple[at], 3), raised(triple[at], -HUGE)):
                            if other != triple[at]:
                                self.assert_refused(replaced(triple, at, other), ("array", array), "array")

    def test_arrays_that_are_not_concave(self):
        for size in SIZES[1:]:
            for array in bordered_arrays(size):
                if not defined_concave(array):
                    self.assert_refused(defined_borders(array), ("array", array), "array")

    def test_values_that_are_no_arrays(self):
        for label, value, _ in wrong_arrays()[::2]:
            with self.subTest(label):
                self.assert_refused(((1, 0), (1, 0), (2, 0)), ("array", value), "array")
        for size in SIZES:
            if size != 2:
                self.assert_refused(((1, 0), (1, 0), (2, 0)), ("array", make(size, lambda r, k: r)), "array")
        for value in (ONE_TILING, 0, -1):
            self.assert_refused(((1, 0), (1, 0), (2, 0)), ("array", value), "array")

    def test_tilings(self):
        for size in KNOWN:
            sets = sets_of_tilings(size)
            for triple in (all_triples(size)[::5] if size < 5 else larger_triples(size)):
                for tiling in known_tilings(size):
                    if defined_gap(*triple, sets[tiling]) < 0:
                        self.assert_same(check_decision(*triple, ("tiling", tiling)), "tiling")
                    else:
                        self.assert_refused(triple, ("tiling", tiling), "inequality")

    def test_tilings_of_size_5(self):
        for triple in larger_triples(5)[::8]:
            for tiling in tilings(5):
                if defined_gap(*triple, border_sets(5, tiling)) < 0:
                    self.assert_same(check_decision(*triple, ("tiling", tiling)), "tiling")
                else:
                    self.assert_refused(triple, ("tiling", tiling), "inequality")

    def test_tilings_with_one_change(self):
        for size in (2, 3, 4):
            triple = ((0,) * size, (0,) * size, tuple(range(2 * size, size, -1)))
            for tiling in known_tilings(size)[::3]:
                for value in changed_tilings(size, tiling):
                    if tiling_fault(size, value):
                        self.assert_refused(triple, ("tiling", value), "tiling")

    def test_values_that_are_no_tilings(self):
        for size in SIZES:
            triple = ((0,) * size, (0,) * size, (1,) * size)
            for value, _ in wrong_tilings(size):
                self.assert_refused(triple, ("tiling", value), "tiling")

    def test_a_gap_of_0_is_not_enough(self):
        for size in SMALL:
            zero = (0,) * size
            for tiling in known_tilings(size):
                self.assert_refused((zero, zero, zero), ("tiling", tiling), "inequality")

    def test_sums_need_not_agree_for_a_tiling(self):
        self.assert_same(check_decision((2, 0), (0, 0), (9, 1), ("tiling", ONE_TILING)), "tiling")
        self.assert_same(check_decision((2, 0), (0, 0), (9, 1), ("tiling", ((), 1))), "tiling")
        self.assert_same(check_decision((2, 0), (0, 0), (9, 1), ("sums", -8)), "sums")

    def test_wrong_forms(self):
        for triple in (((2, 0), (0, 0), (1, 1)), ((1,), (1,), (3,)), ((0,) * 6, (0,) * 6, (0,) * 6)):
            for answer in wrong_forms():
                self.assert_refused(triple, answer, "form")

    def test_no_limit_of_the_spread(self):
        wide = (HUGE, 0, 0, 0, 0, -HUGE)
        array = make(6, lambda r, k: wide[0] * (r > 0) + wide[-1] * (r > 5))
        self.assert_same(check_decision(wide, (0,) * 6, wide, ("array", array)), "array")


class CommonErrors(TestCase):

    CALLS = (
        (gap, (((), 0), ONE_TILING, None, doubled(0))),
        (check_decision, (("sums", 1), ("tiling", ONE_TILING), None, doubled(0))),
    )

    def assert_all_raise(self, error, fields, a, b, c):
        for function in (violated, decide):
            self.assert_raises(error, fields, function, a, b, c)
        for function, endings in self.CALLS:
            for ending in endings:
                self.assert_raises(error, fields, function, a, b, c, ending)

    def test_wrong_partitions(self):
        other = ((1, 0), (1, 0, 0, 0, 0, 0), (30, 0))
        for label, value, position in wrong_partitions():
            with self.subTest(label):
                fields = {"position": position}
                for second, third in ((other[0], other[1]), (other[2], None), ((0, 1), True), (doubled(0), other[0])):
                    self.assert_all_raise(InvalidPartition, fields, value, second, third)
                for first, third in ((other[0], other[1]), (other[1], None), (other[2], (0, 1))):
                    self.assert_all_raise(InvalidPartition, fields, first, value, third)
                for first, second in ((other[0], other[0]), (other[0], other[1]), (other[1], other[2])):
                    self.assert_all_raise(InvalidPartition, fields, first, second, value)

    def test_different_sizes(self):
        for sizes in itertools.product(SIZES, repeat=3):
            if len(set(sizes)) > 1:
                for spread in (0, 21):
                    borders = [(spread,) + (0,) * (size - 1) for size in sizes]
                    self.assert_all_raise(SizeMismatch, {"sizes": sizes}, *borders)


class Times(TestCase):

    def test_largest_inputs(self):
        a, b, c = (20, 14, 7, 0), (20, 13, 7, 0), (30, 24, 17, 10)
        five = ((HUGE, 9, 5, 0, -HUGE), (THOUSAND_DIGITS, 8, 3, 1, 0), (THOUSAND_DIGITS, HUGE, 0, 0, -HUGE))
        six = ((HUGE, 9, 5, 0, 0, 0),) * 3
        calls = [(violated,) + five, (decide, a, b, c), (decide, (20, 0, 0, 0), (20, 0, 0, 0), (10, 10, 10, 10))]
        calls += [(gap,) + six + (tiling,) for tiling in known_tilings(6)]
        calls += [(check_decision,) + six + (("sums", HUGE + 14),)]
        for call, *args in calls:
            start = time.process_time()
            call(*args)
            self.assertLess(time.process_time() - start, 5)
