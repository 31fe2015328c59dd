"""threerims.tilings: every function against lists that are made from [17] and [18] alone, and wrong values."""

import itertools
import sys
import time

from threerims import tilings as module
from threerims.concave import count_solutions
from threerims.errors import InvalidPositions, InvalidSize, InvalidTiling, LimitExceeded
from threerims.inequalities import violated
from threerims.tilings import border_sets, check_tiling, edge_labels, is_tiling, tilings, tilings_with
from tests.helper import (
    HUGE,
    RHOMBUSES,
    SIZES,
    THOUSAND_DIGITS,
    TILINGS_OF_SIZE_6,
    Numbers,
    TestCase,
    changed_tilings,
    defined_labels,
    defined_sets,
    defined_tilings,
    doubled,
    known_tilings,
    not_integers,
    parts,
    separate_rhombuses,
    tiling_fault,
    wrong_tilings,
)

SMALL = (1, 2, 3, 4)
LEFT_FLAT = ((("flat", 0, 0), ("left", 1, 1)), None)


def wrong_sizes():
    return [value for _, value in not_integers()] + [0, -1, 7, 8, HUGE, -HUGE, THOUSAND_DIGITS]


def subsets(size):
    """Return all ascending tuples of positions."""
    positions = range(1, size + 1)
    return [each for many in range(size + 1) for each in itertools.combinations(positions, many)]


def grouped(size):
    """Return a dict from border sets to the tilings that have them, in their order."""
    found = {}
    for tiling, labels in defined_tilings(size).items():
        found.setdefault(defined_sets(size, labels), []).append(tiling)
    return found


def sets_by_program(size):
    found = {}
    for tiling in tilings(size):
        found.setdefault(border_sets(size, tiling), []).append(tiling)
    return found


def from_positions(positions):
    """Return the partition (I[m] - m, ..., I[1] - 1) of [43]."""
    return tuple(position - at for at, position in enumerate(positions, 1))[::-1]


def lines_run(call, *args):
    """Return how many lines of Python the call runs."""
    lines = 0

    def count(frame, event, arg):
        nonlocal lines
        lines += event == "line"
        return count

    before = sys.gettrace()
    sys.settrace(count)
    try:
        call(*args)
    finally:
        sys.settrace(before)
    return lines


class CheckTiling(TestCase):

    def assert_checked(self, size, value):
        fault = tiling_fault(size, value)
        if fault:
            self.assert_raises(InvalidTiling, {"index": fault[0]}, check_tiling, size, value)
        else:
            self.assertIsNone(check_tiling(size, value))
        self.assertIs(is_tiling(size, value), not fault)
        return fault

    def test_tilings(self):
        for size in (1, 2, 3, 4, 6):
            for tiling in known_tilings(size):
                self.assertEqual(self.assert_checked(size, tiling), [])

    def test_tilings_with_one_change(self):
        faults = set()
        for size in SMALL:
            for tiling in known_tilings(size):
                for value in changed_tilings(size, tiling):
                    faults.update(self.assert_checked(size, value))
        self.assertEqual(faults, {0, 1, 2, 3, 4, "labels", "label"})

    def test_tilings_of_size_6_with_one_change(self):
        for tiling in TILINGS_OF_SIZE_6[2:]:
            for value in changed_tilings(6, tiling):
                self.assert_checked(6, value)

    def test_every_set_of_rhombuses_that_share_no_cell(self):
        for size in (1, 2, 3):
            for chosen in separate_rhombuses(size):
                for label in (None, 0, 1, 2):
                    self.assert_checked(size, (chosen, label))
        for chosen in separate_rhombuses(4):
            self.assert_checked(4, (chosen, None))

    def test_two_rhombuses_in_every_order(self):
        for size in (2, 3):
            every = [each for chosen in separate_rhombuses(size + 1) if len(chosen) == 1 for each in chosen]
            for items in itertools.product(every, repeat=2):
                self.assert_checked(size, (items, None))

    def test_some_sets_of_rhombuses_of_larger_sizes(self):
        seen = set()
        for size in (5, 6):
            numbers, every = Numbers(size), sorted(RHOMBUSES[size])
            for _ in range(1500):
                chosen, taken = [], set()
                for _ in range(1 + numbers.below(9)):
                    rhombus = every[numbers.below(len(every))]
                    if not taken & set(parts(rhombus)):
                        chosen.append(rhombus)
                        taken |= set(parts(rhombus))
                seen.update(self.assert_checked(size, (tuple(sorted(chosen)), None)) or ["none"])
        self.assertEqual(seen, {"labels", "none"})

    def test_parts_of_tilings_of_size_5(self):
        for items, _ in tilings(5):
            for at in range(len(items)):
                self.assertEqual(self.assert_checked(5, (items[:at] + items[at + 1:], None)), ["labels"])

    def test_labels_come_before_the_label(self):
        self.assert_raises(InvalidTiling, {"index": "labels"}, check_tiling, 3, ((("flat", 0, 0),), 5))
        self.assert_raises(InvalidTiling, {"index": "label"}, check_tiling, 2, ((("flat", 0, 0),), 5))

    def test_wrong_values(self):
        for size in SIZES:
            for value, field in wrong_tilings(size):
                self.assertTrue(is_tiling(size, value) is False)
                self.assert_raises(InvalidTiling, {"index": field}, check_tiling, size, value)
                self.assert_raises(InvalidTiling, {"index": field}, edge_labels, size, value)
                self.assert_raises(InvalidTiling, {"index": field}, border_sets, size, value)

    def test_tilings_of_another_size(self):
        for size, other in itertools.permutations((1, 2, 3, 4, 6), 2):
            for tiling in known_tilings(other):
                self.assert_checked(size, tiling)

    def test_wrong_sizes(self):
        for size in wrong_sizes():
            for value in (((), 0), LEFT_FLAT, None, [], doubled(0)):
                for function in (check_tiling, is_tiling, edge_labels, border_sets):
                    self.assert_raises_with(InvalidSize, "value", size, function, size, value)


class Labels(TestCase):

    def test_labels_of_every_tiling(self):
        for size in SMALL:
            for tiling, labels in defined_tilings(size).items():
                self.assert_same(edge_labels(size, tiling), tuple(sorted(labels.items())))

    def test_border_sets_of_every_tiling(self):
        for size in SMALL:
            for tiling, labels in defined_tilings(size).items():
                self.assert_same(border_sets(size, tiling), defined_sets(size, labels))

    def test_larger_sizes(self):
        for size, known in ((5, tilings(5)), (6, TILINGS_OF_SIZE_6)):
            for chosen, label in known:
                labels = defined_labels(size, chosen, label)
                self.assert_same(edge_labels(size, (chosen, label)), tuple(sorted(labels.items())))
                self.assert_same(border_sets(size, (chosen, label)), defined_sets(size, labels))

    def test_all_tilings_of_size_6(self):
        # No function of the interface lists them.
        found = module.all_tilings(6)
        for (chosen, label), sets in found:
            labels = defined_labels(6, chosen, label)
            self.assertEqual(tiling_fault(6, (chosen, label)), [])
            self.assertIsNone(check_tiling(6, (chosen, label)))
            self.assert_same(edge_labels(6, (chosen, label)), tuple(sorted(labels.items())))
            self.assert_same(border_sets(6, (chosen, label)), defined_sets(6, labels))
            self.assert_same(sets, defined_sets(6, labels))
        self.assertTrue({tiling for tiling, _ in found} >= set(TILINGS_OF_SIZE_6))

    def test_tilings_without_a_rhombus(self):
        for size in SIZES:
            full = tuple(range(1, size + 1))
            self.assert_same(border_sets(size, ((), 0)), ((), (), ()))
            self.assert_same(border_sets(size, ((), 1)), (full, full, full))
            for label in (0, 1):
                found = edge_labels(size, ((), label))
                self.assertEqual(len(found), 3 * size * (size + 1) // 2)
                self.assertEqual({each for _, each in found}, {label})

    def test_shared_edges_have_no_label(self):
        found = dict(edge_labels(2, ((("flat", 0, 0),), None)))
        self.assertNotIn(("flat", 1, 0), found)
        self.assertEqual(len(found), 8)


class Lists(TestCase):

    def test_constant(self):
        self.assert_same(module.MAX_TILING_SIZE, 5)

    def test_all_tilings(self):
        for size in SMALL:
            self.assert_same(tilings(size), list(defined_tilings(size)))

    def test_numbers_of_tilings(self):
        self.assertEqual([len(tilings(size)) for size in SMALL], [2, 5, 14, 43])

    def test_tilings_of_size_5(self):
        found = tilings(5)
        self.assert_same(found[:2], [((), 0), ((), 1)])
        chosen = [tiling[0] for tiling in found[2:]]
        self.assertEqual(chosen, sorted(set(chosen)))
        for tiling in found:
            self.assertEqual(tiling_fault(5, tiling), [])

    def test_limit(self):
        self.assert_raises(LimitExceeded, {"limit": 5}, tilings, 6)
        for wrong in ((), (1,), None, (2, 1), doubled(0)):
            self.assert_raises(LimitExceeded, {"limit": 5}, tilings_with, 6, wrong, wrong, wrong)

    def test_wrong_sizes(self):
        for size in wrong_sizes():
            self.assert_raises_with(InvalidSize, "value", size, tilings, size)
            for wrong in ((), None, (2, 1), doubled(0)):
                self.assert_raises_with(InvalidSize, "value", size, tilings_with, size, wrong, wrong, wrong)

    def test_every_three_sets_of_small_sizes(self):
        for size in (1, 2, 3):
            expected = grouped(size)
            for sets in itertools.product(subsets(size), repeat=3):
                self.assert_same(tilings_with(size, *sets), expected.get(sets, []))

    def test_sets_of_size_4(self):
        expected = grouped(4)
        for sets in itertools.product(subsets(4), repeat=3):
            if len({len(each) for each in sets}) == 1:
                self.assert_same(tilings_with(4, *sets), expected.get(sets, []))

    def test_sets_of_size_5(self):
        expected = sets_by_program(5)
        for sets in itertools.product(subsets(5)[::3], repeat=3):
            self.assert_same(tilings_with(5, *sets), expected.get(sets, []))
        for sets in expected:
            self.assert_same(tilings_with(5, *sets), expected[sets])

    def test_wrong_positions(self):
        good = ((), (1,))
        for size in SIZES[:-1]:
            wrong = [value for _, value in not_integers() if value not in (list(subsets(size)))]
            wrong += [[], [1], (0,), (-1,), (size + 1,), (1, 1), (size, size), (2, 1), (1, size + 1), (0, 1), (True,)]
            wrong += [(1, True), (1, None), ((1,),), (1, doubled(0)), (HUGE,), (-THOUSAND_DIGITS,), 1, size, ("1",)]
            wrong += [tuple(range(1, size + 2)), tuple(range(size)), tuple(range(size, 0, -1))[:5] + (1,)]
            for value in wrong:
                for one, two in itertools.product(good + (None, (0,), doubled(0)), repeat=2):
                    self.assert_raises(InvalidPositions, {"border": "i"}, tilings_with, size, value, one, two)
                for one, two in itertools.product(good, good + (None, (0,), doubled(0))):
                    self.assert_raises(InvalidPositions, {"border": "j"}, tilings_with, size, one, value, two)
                for one, two in itertools.product(good, repeat=2):
                    self.assert_raises(InvalidPositions, {"border": "k"}, tilings_with, size, one, two, value)


class Behaviour(TestCase):

    def test_border_sets_have_the_same_length(self):
        for size in SMALL + (5,):
            for tiling in tilings(size):
                self.assertEqual(len({len(each) for each in border_sets(size, tiling)}), 1)

    def test_number_of_tilings_with_border_sets(self):
        for size in SMALL + (5,):
            found = sets_by_program(size)
            for sets in itertools.product(subsets(size), repeat=3):
                lengths = {len(each) for each in sets}
                if len(lengths) > 1:
                    self.assertNotIn(sets, found)
                elif lengths <= {1, 2, 3, 4}:
                    partitions = [from_positions(each) for each in sets]
                    self.assertEqual(len(found.get(sets, [])), count_solutions(*partitions))
                else:
                    self.assertEqual(len(found[sets]), 1)

    def test_number_of_tilings_with_given_border_sets(self):
        for size in SMALL:
            for sets in itertools.product(subsets(size)[1:], repeat=3):
                if len({len(each) for each in sets}) == 1:
                    partitions = [from_positions(each) for each in sets]
                    self.assertEqual(len(tilings_with(size, *sets)), count_solutions(*partitions))


class Times(TestCase):

    def test_largest_inputs(self):
        calls = [(tilings, 5), (tilings_with, 5, (1, 3), (2, 4), (2, 5)), (tilings_with, 5, (), (), ())]
        for tiling in TILINGS_OF_SIZE_6:
            calls.extend([(check_tiling, 6, tiling), (edge_labels, 6, tiling), (border_sets, 6, tiling)])
        for chosen in separate_rhombuses(4)[::40]:
            calls.append((is_tiling, 6, (chosen, None)))
        for call, *args in calls:
            start = time.process_time()
            call(*args)
            self.assertLess(time.process_time() - start, 5)

    def test_lines_that_are_run(self):
        # A fourth of what the first way to these answers ran. Lines are counted because times differ from run to run.
        border = (4, 3, 2, 1, 0)
        for limit, call, *args in (
            (78000, tilings, 5),
            (78000, violated, border, border, (8, 6, 4, 2, 0)),
            (1980, check_tiling, 6, ((), 0)),
            (1270, check_tiling, 5, ((), 0)),
            (1350, tilings_with, 5, (1, 3), (2, 4), (2, 5)),
        ):
            self.assertLess(lines_run(call, *args), limit, call.__name__)
        for tiling in tilings(5):
            for function in (check_tiling, edge_labels, border_sets):
                self.assertLess(lines_run(function, 5, tiling), 640 if tiling[0] else 1270, function.__name__)
