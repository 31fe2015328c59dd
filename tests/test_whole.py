"""What DOC.md promises over the whole program: modules agree with each other, constants, and [41], [43], [62], [64], [82]."""

import importlib
import itertools

from threerims.arrays import borders
from threerims.catalogue import Catalogue
from threerims.chains import chain, chain_of, conjugate, is_chain, raises_of
from threerims.concave import count_solutions, entry_range, rank_of, solution_by_rank, solutions, third_borders
from threerims.console import Console
from threerims.errors import InvalidAnswer
from threerims.exponents import exponents
from threerims.factors import check_realization, lead, realize, tail
from threerims.inequalities import check_decision, decide, gap, slack_certificate, violated
from threerims.matrices import product
from threerims.products import multiplicities
from threerims.tableaux import array_of, content, fits, outer_shape, tableau_of
from threerims.tilings import tilings, tilings_with
from threerims.turning import cross_pair, stack_pair
from tests.helper import Numbers, TestCase, partitions_from, some_partition, tableaux_with, thirds

SMALL = (1, 2, 3, 4)

CONSTANTS = {
    "partitions": {"MAX_SIZE": 6},
    "concave": {"MAX_ENUMERATED_SIZE": 4, "MAX_SPREAD": 20},
    "tilings": {"MAX_TILING_SIZE": 5},
    "matrices": {"MAX_ENTRY": 10 ** 60, "MAX_PRIME": 97},
    "tableaux": {"MAX_LEVELS": 60},
    "products": {"MAX_FILLED": 8},
    "catalogue": {"MAX_STORED": 12},
}

# The names that the interface lists, file by file.
LISTED = {
    "partitions": "is_integer check_partition is_partition negate shift scale_partition add_partitions",
    "arrays": "check_array is_array size_of borders entry flat_differences rhombuses rhombus_vertices slack slacks "
              "is_concave rotate reflect scale_array add_arrays",
    "concave": "solutions count_solutions solution_by_rank rank_of entry_range third_borders",
    "tilings": "check_tiling is_tiling edge_labels border_sets tilings tilings_with",
    "inequalities": "gap slack_certificate violated decide check_decision",
    "matrices": "is_matrix is_prime check_matrix check_prime identity product determinant minor",
    "exponents": "order least_orders exponents certificate check_certificate",
    "tableaux": "is_tableau content outer_shape is_steep is_fair fits array_of tableau_of",
    "factors": "lead factors tail realize check_realization",
    "chains": "conjugate chain is_chain raises_of chain_of",
    "products": "dimension multiplicities",
    "turning": "cross_pair stack_pair",
    "catalogue": "Catalogue catalogue_text read_catalogue",
    "console": "Console",
}


def pairs(size):
    """Return pairs of nonnegative partitions."""
    numbers = Numbers(2000 + size)
    found = list(itertools.product(partitions_from(size, 0, (4, 3, 2, 1)[size - 1]), repeat=2))[::(1, 2, 4, 2)[size - 1]]
    for _ in range(6):
        spread = (8, 8, 5, 3)[size - 1]
        found.append((some_partition(numbers, size, spread), some_partition(numbers, size, spread)))
    return found


def nonnegative_thirds(a, b):
    return [c for c in thirds(a, b) if c[-1] >= 0 and c[0] <= 12]


class Agreement(TestCase):

    def test_numbers_agree(self):
        for size in SMALL:
            for a, b in pairs(size):
                known = dict(multiplicities(a, b))
                for c in nonnegative_thirds(a, b):
                    many = count_solutions(a, b, c)
                    self.assertEqual(known.get(c, 0), many)
                    self.assertEqual(len(solutions(a, b, c)), many)
                    if sum(c) < 9:
                        self.assertEqual(len(tableaux_with(a, b, c)), many)

    def test_answers_agree(self):
        seen = set()
        for size in SMALL:
            for a, b in pairs(size)[::2]:
                every = third_borders(a, b) if size < 4 else None
                for c in nonnegative_thirds(a, b) + [(sum(a) + sum(b) + 1,) + (0,) * (size - 1)]:
                    if c[0] <= 20:
                        seen.add(self.assert_agree(a, b, c, every))
        self.assertEqual(seen, {"array", "tiling", "sums"})

    def assert_agree(self, a, b, c, every):
        kind = decide(a, b, c)[0]
        solved = kind == "array"
        self.assertEqual(check_decision(a, b, c, decide(a, b, c)), kind)
        self.assertEqual(count_solutions(a, b, c) > 0, solved)
        self.assertEqual(entry_range(a, b, c, (0, 0)) is not None, solved)
        if sum(a) + sum(b) == sum(c):
            self.assertEqual(bool(violated(a, b, c)), not solved)
        if every is not None:
            self.assertEqual(c in every, solved)
        answer = realize(a, b, c, 7)
        self.assertEqual(answer[0], {"array": "matrices"}.get(kind, kind))
        self.assertEqual(check_realization(a, b, c, 7, answer), answer[0])
        if kind != "array":
            self.assertEqual(check_realization(a, b, c, 7, decide(a, b, c)), kind)
        else:
            with self.assertRaises(InvalidAnswer):
                check_realization(a, b, c, 7, decide(a, b, c))
        if max(a[0], b[0], c[0]) <= 12:
            self.assert_catalogue_agrees(a, b, c, solved, answer)
        return kind

    def assert_catalogue_agrees(self, a, b, c, solved, answer):
        catalogue, console = Catalogue(len(a), 7), Console()
        console.run(f"new {len(a)} 7")
        for name, partition in zip("abc", (a, b, c)):
            catalogue.store(name, partition)
            console.run(f"store {name} {' '.join(map(str, partition))}")
        self.assertIs(catalogue.contains("c", "a", "b"), solved)
        self.assertEqual(catalogue.realize("a", "b", "c"), answer)
        self.assertEqual(console.run("contains c a b"), "yes" if solved else "no")
        self.assertEqual(console.run("realize a b c").split(" ")[0], answer[0])
        if b[0] <= 8:
            self.assertEqual(c in dict(catalogue.product("a", "b")), solved)

    def test_ranks_and_ranges_agree(self):
        for size in SMALL:
            for a, b in pairs(size)[::3]:
                for c in nonnegative_thirds(a, b)[::2]:
                    found = solutions(a, b, c)
                    self.assertEqual([rank_of(array) for array in found], list(range(len(found))))
                    self.assertEqual([solution_by_rank(a, b, c, rank) for rank in range(len(found))], found)
                    for row, place in ((2, 1), (size, 0), (size, size)):
                        if row <= size and place <= row:
                            entries = [array[row][place] for array in found]
                            expected = (min(entries), max(entries)) if entries else None
                            self.assertEqual(entry_range(a, b, c, (row, place)), expected)

    def test_numbers_of_tilings_are_multiplicities(self):
        for size in (2, 3, 4):
            chosen = [each for many in range(1, size + 1) for each in itertools.combinations(range(1, size + 1), many)]
            for i, j in itertools.product(chosen, repeat=2):
                if len(i) == len(j):
                    one, two = (tuple(item - at for at, item in enumerate(each, 1))[::-1] for each in (i, j))
                    known = dict(multiplicities(one, two))
                    for k in chosen:
                        if len(k) == len(i):
                            three = tuple(item - at for at, item in enumerate(k, 1))[::-1]
                            self.assertEqual(len(tilings_with(size, i, j, k)), known.get(three, 0))

    def test_gaps_are_sums_of_slacks(self):
        for size in SMALL:
            for a, b in pairs(size)[::5]:
                for c in nonnegative_thirds(a, b)[::3]:
                    for array in solutions(a, b, c)[:2]:
                        for tiling in tilings(size):
                            total = sum(amount for _, amount in slack_certificate(array, tiling))
                            self.assertEqual(gap(a, b, c, tiling), total)


class Ways(TestCase):
    """From borders to arrays, tableaux, matrices and chains, and back."""

    def test_from_solutions_to_matrices_and_chains(self):
        for size in SMALL:
            for a, b in pairs(size)[::3]:
                for c in nonnegative_thirds(a, b)[::2]:
                    for array in solutions(a, b, c)[:3]:
                        tableau = tableau_of(array)
                        self.assertTrue(fits(a, tableau))
                        self.assertEqual((content(tableau), outer_shape(a, tableau)), (b, c))
                        self.assertEqual(array_of(a, tableau), array)
                        first, second = lead(a, 3), tail(a, tableau, 3)
                        self.assertEqual((exponents(first, 3), exponents(second, 3)), (a, b))
                        made = chain(first, second, 3)
                        self.assertEqual((made[0], made[-1]), (a, c))
                        self.assertEqual(exponents(product(first, second), 3), c)
                        self.assertTrue(is_chain(made))
                        raises = raises_of(made)
                        self.assertEqual(chain_of(a, raises), made)
                        padded = conjugate(b) + (0,) * (c[0] - b[0])
                        self.assertEqual(content(raises), padded)

    def test_conjugates_have_as_many_solutions(self):
        for size in (1, 2, 3):
            for a, b in itertools.product(partitions_from(size, 0, 3), repeat=2):
                for c in nonnegative_thirds(a, b):
                    if 1 <= c[0] <= 4:
                        turned = [(conjugate(each) + (0,) * 4)[:c[0]] for each in (a, b, c)]
                        if max(a[0], b[0]) <= c[0]:
                            self.assertEqual(count_solutions(*turned), count_solutions(a, b, c))

    def test_from_stacked_to_crossed_pairs(self):
        a = (2, 1, 0)
        for d in third_borders(a, a):
            for c in third_borders(d, a):
                for first, second in itertools.product(solutions(a, a, d), solutions(d, a, c)):
                    one, two = cross_pair(first, second)
                    f = borders(one)[2]
                    self.assertIn(f, third_borders(a, a))
                    self.assertLess(rank_of(one), count_solutions(a, a, f))
                    self.assertLess(rank_of(two), count_solutions(a, f, c))
                    self.assertEqual(stack_pair(one, two), (first, second))


class Interface(TestCase):

    def test_constants(self):
        for module, values in CONSTANTS.items():
            for name, value in values.items():
                self.assert_same(getattr(importlib.import_module("threerims." + module), name), value)

    def test_listed_names_are_defined_in_their_files(self):
        for module, names in LISTED.items():
            found = importlib.import_module("threerims." + module)
            for name in names.split():
                self.assertEqual(getattr(found, name).__module__, "threerims." + module)
                self.assertEqual(getattr(found, name).__name__, name)
