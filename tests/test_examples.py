"""The examples of DOC.md, word for word."""

from threerims import (
    arrays,
    catalogue,
    chains,
    concave,
    console,
    errors,
    exponents,
    factors,
    inequalities,
    matrices,
    partitions,
    products,
    tableaux,
    tilings,
    turning,
)
from tests.helper import E, TestCase

# What is called, and what it returns.
RETURNS = (
    ("is_integer(True)", "False"),
    ("is_partition((3, 1, 1))", "True"),
    ("negate((3, 1, -2))", "(2, -1, -3)"),
    ("shift((3, 1), 2)", "(5, 3)"),
    ("scale_partition((3, 1), 2)", "(6, 2)"),
    ("add_partitions((3, 1), (2, 2))", "(5, 3)"),
    ("is_array(E)", "True"),
    ("size_of(E)", "2"),
    ("borders(E)", "((1, 0), (1, 0), (2, 0))"),
    ("entry(E, (1, 1))", "2"),
    ("flat_differences(E, 2)", "(1, 0)"),
    ("rhombuses(2)", '(("flat", 0, 0), ("left", 1, 1), ("right", 1, 0))'),
    ('rhombus_vertices(("left", 1, 1))', "(((1, 1), (2, 1)), ((1, 0), (2, 2)))"),
    ('slack(E, ("flat", 0, 0))', "1"),
    ("1 + 2 - 0 - 2", "1"),
    ("slacks(E)", '((("flat", 0, 0), 1), (("left", 1, 1), 1), (("right", 1, 0), 0))'),
    ("is_concave(E)", "True"),
    ("rotate(E)", "((0,), (1, 0), (1, 1, -1))"),
    ("reflect(E)", "((0,), (2, 1), (2, 2, 1))"),
    ("scale_array(E, 2)", "((0,), (2, 4), (2, 4, 4))"),
    ("add_arrays(E, E)", "((0,), (2, 4), (2, 4, 4))"),
    ("E", "((0,), (1, 2), (1, 2, 2))"),
    ("MAX_SIZE", "6"),
    ("MAX_ENUMERATED_SIZE", "4"),
    ("MAX_SPREAD", "20"),
    ("solutions((1, 0), (1, 0), (2, 0))", "[E]"),
    ("count_solutions((2, 1, 0), (2, 1, 0), (3, 2, 1))", "2"),
    ("solution_by_rank((2, 1, 0), (2, 1, 0), (3, 2, 1), 0)", "((0,), (2, 3), (3, 4, 5), (3, 5, 6, 6))"),
    ("rank_of(((0,), (2, 3), (3, 5, 5), (3, 5, 6, 6)))", "1"),
    ("entry_range((2, 1, 0), (2, 1, 0), (3, 2, 1), (2, 1))", "(4, 5)"),
    ("third_borders((1, 0), (1, 0))", "((1, 1), (2, 0))"),
    ("MAX_TILING_SIZE", "5"),
    ("is_tiling(1, ((), 1))", "True"),
    ("edge_labels(1, ((), 1))", '((("flat", 1, 0), 1), (("left", 0, 0), 1), (("right", 0, 0), 1))'),
    ('border_sets(2, ((("left", 1, 1),), None))', "((2,), (1,), (2,))"),
    ("tilings(1)", "[((), 0), ((), 1)]"),
    ("tilings_with(2, (1,), (2,), (2,))", '[((("flat", 0, 0),), None)]'),
    ('gap((2, 0), (0, 0), (1, 1), ((("left", 1, 1),), None))', "-1"),
    ('slack_certificate(E, ((("flat", 0, 0),), None))', '((("flat", 0, 0), 1),)'),
    ("violated((2, 0), (0, 0), (1, 1))", '[((("left", 1, 1),), None)]'),
    ("decide((2, 0), (0, 0), (1, 1))", '("tiling", ((("left", 1, 1),), None))'),
    ('check_decision((2, 0), (0, 0), (1, 1), ("tiling", ((("left", 1, 1),), None)))', '"tiling"'),
    ("MAX_ENTRY", "10 ** 60"),
    ("MAX_PRIME", "97"),
    ("is_prime(91)", "False"),
    ("identity(2)", "((1, 0), (0, 1))"),
    ("product(((2, 1), (0, 3)), ((1, 0), (4, 1)))", "((6, 1), (12, 3))"),
    ("determinant(((2, 1), (0, 3)))", "6"),
    ("minor(((2, 1), (0, 3)), (0,), (1,))", "1"),
    ("order(12, 2)", "2"),
    ("least_orders(((2, 1), (0, 2)), 2)", "(0, 2)"),
    ("exponents(((2, 1), (0, 2)), 2)", "(2, 0)"),
    ("check_certificate(((2, 0), (0, 1)), 2, (((1, 0), (0, 1)), ((1, 0), (0, 1))))", "(1, 0)"),
    ("MAX_LEVELS", "60"),
    ("is_tableau(((1,), (0, 1)))", "True"),
    ("content(((1,), (0, 1)))", "(1, 1)"),
    ("outer_shape((1, 0), ((1,), (0, 1)))", "(2, 1)"),
    ("fits((1, 0), ((1,), (0, 1)))", "True"),
    ("array_of((1, 0), ((1,), (0, 1)))", "((0,), (1, 2), (1, 2, 3))"),
    ("tableau_of(((0,), (1, 2), (1, 2, 3)))", "((1,), (0, 1))"),
    ("lead((1, 0), 2)", "((2, 0), (0, 1))"),
    ("factors((1, 0), ((1,), (0, 1)), 2)", "(((2, 1), (0, 1)), ((1, 0), (0, 2)))"),
    ("tail((1, 0), ((1,), (0, 1)), 2)", "((2, 2), (0, 2))"),
    ('check_realization((1, 0), (1, 1), (2, 1), 2, ("matrices", ((1,), (0, 1))))', '"matrices"'),
    ("conjugate((3, 1))", "(2, 1, 1)"),
    ("chain(((2, 0), (0, 1)), ((2, 0), (0, 2)), 2)", "((1, 0), (2, 1))"),
    ("is_chain(((1, 0), (2, 0), (2, 1)))", "False"),
    ("raises_of(((1, 0), (2, 1)))", "((1,), (1, 0))"),
    ("chain_of((1, 0), ((1,), (1, 0)))", "((1, 0), (2, 1))"),
    ("MAX_FILLED", "8"),
    ("dimension((2, 1, 0))", "8"),
    ("multiplicities((1, 0), (1, 0))", "(((2, 0), 1), ((1, 1), 1))"),
    ("cross_pair(((0,), (1, 2)), ((0,), (2, 2)))", "(((0,), (1, 1)), ((0,), (1, 2)))"),
    ("MAX_STORED", "12"),
    ('Console().run("names")', '"no catalogue"'),
)

# What is called, the exception that it raises, and the field of that exception.
RAISES = (
    ("check_partition((2, 3))", "InvalidPartition(1)", "position"),
    ("check_array(((0,), (1,)))", "InvalidArray(1)", "row"),
    ('check_tiling(2, ((("flat", 0, 0), ("left", 1, 1)), None))', "InvalidTiling(1)", "index"),
    ("check_prime(1)", "InvalidPrime(1)", "value"),
    ('read_catalogue("catalogue 2 5\\npartition a 2 x")', "ParseError(2, 4)", "line"),
    ('read_catalogue("catalogue 2 5\\npartition a 2 x")', "ParseError(2, 4)", "word"),
)


class Examples(TestCase):

    def known_names(self):
        modules = (errors, partitions, arrays, concave, tilings, inequalities, matrices, exponents, tableaux, factors,
                   chains, products, turning, catalogue, console)
        return {name: value for module in modules for name, value in vars(module).items()} | {"E": E}

    def test_returned_values(self):
        for call, expected in RETURNS:
            with self.subTest(call):
                self.assert_same(eval(call, self.known_names()), eval(expected, self.known_names()))

    def test_raised_exceptions(self):
        for call, text, field in RAISES:
            with self.subTest(call):
                expected = eval(text, self.known_names())
                self.assert_raises(expected.__class__, {field: getattr(expected, field)},
                                   eval, call, self.known_names())
