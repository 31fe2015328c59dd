"""The examples of DOC.md, word for word."""

from threerims import arrays, errors, partitions
from tests.helper import E, TestCase

# What is called, and what it returns.
RETURNS = (
    ("is_integer(True)", "False"),
    ("is_partition((3, 1, 1))", "True"),
    ("negate((3, 1, -2))", "(2, -1, -3)"),
    ("shift((3, 1), 2)", "(5, 3)"),
    ("scale_partition((3, 1), 2)", "(6, 2)"),
    ("add_partitions((3, 1), (2, 2))", "(5, 3)"),
    ("is_array(E)", "True"),
    ("size_of(E)", "2"),
    ("borders(E)", "((1, 0), (1, 0), (2, 0))"),
    ("entry(E, (1, 1))", "2"),
    ("flat_differences(E, 2)", "(1, 0)"),
    ("rhombuses(2)", '(("flat", 0, 0), ("left", 1, 1), ("right", 1, 0))'),
    ('rhombus_vertices(("left", 1, 1))', "(((1, 1), (2, 1)), ((1, 0), (2, 2)))"),
    ('slack(E, ("flat", 0, 0))', "1"),
    ("1 + 2 - 0 - 2", "1"),
    ("slacks(E)", '((("flat", 0, 0), 1), (("left", 1, 1), 1), (("right", 1, 0), 0))'),
    ("is_concave(E)", "True"),
    ("rotate(E)", "((0,), (1, 0), (1, 1, -1))"),
    ("reflect(E)", "((0,), (2, 1), (2, 2, 1))"),
    ("scale_array(E, 2)", "((0,), (2, 4), (2, 4, 4))"),
    ("add_arrays(E, E)", "((0,), (2, 4), (2, 4, 4))"),
    ("E", "((0,), (1, 2), (1, 2, 2))"),
    ("MAX_SIZE", "6"),
)

# What is called, the exception that it raises, and the field of that exception.
RAISES = (
    ("check_partition((2, 3))", "InvalidPartition(1)", "position"),
    ("check_array(((0,), (1,)))", "InvalidArray(1)", "row"),
)


class Examples(TestCase):

    def known_names(self):
        return {**vars(errors), **vars(partitions), **vars(arrays), "E": E}

    def test_returned_values(self):
        for call, expected in RETURNS:
            with self.subTest(call):
                self.assert_same(eval(call, self.known_names()), eval(expected, self.known_names()))

    def test_raised_exceptions(self):
        for call, text, field in RAISES:
            with self.subTest(call):
                expected = eval(text, self.known_names())
                self.assert_raises(expected.__class__, {field: getattr(expected, field)},
                                   eval, call, self.known_names())
