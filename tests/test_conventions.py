"""[0] to [4]: arguments are neither changed nor kept, and may be passed by name."""

import gc
import inspect
import sys
import weakref

from threerims import (
    arrays,
    catalogue,
    chains,
    concave,
    console,
    exponents,
    factors,
    inequalities,
    matrices,
    partitions,
    products,
    tableaux,
    tilings,
    turning,
)
from threerims.errors import ThreerimsError
from tests.helper import E, HUGE, Plain, TestCase, bowl, make

ABC = {"a": (2, 1, 0), "b": (2, 1, 0), "c": (3, 2, 1)}
APART = {"a": (2, 0), "b": (0, 0), "c": (1, 1)}
TILING = ((("left", 1, 1),), None)
TWO = ((2, 1), (0, 3))
TABLEAU = ((1,), (0, 1))
PLAIN = ((1, 0), (0, 1))

# The module, the function, and valid arguments by their names, in the order of the parameters.
CALLS = (
    (partitions, "is_integer", {"value": 3}),
    (partitions, "check_partition", {"value": (3, 1)}),
    (partitions, "is_partition", {"value": (3, 1)}),
    (partitions, "negate", {"partition": (3, 1)}),
    (partitions, "shift", {"partition": (3, 1), "amount": 4}),
    (partitions, "scale_partition", {"partition": (3, 1), "factor": 4}),
    (partitions, "add_partitions", {"first": (3, 1), "second": (9, 0)}),
    (arrays, "check_array", {"value": E}),
    (arrays, "is_array", {"value": E}),
    (arrays, "size_of", {"array": E}),
    (arrays, "borders", {"array": E}),
    (arrays, "entry", {"array": E, "vertex": (2, 1)}),
    (arrays, "flat_differences", {"array": E, "row": 1}),
    (arrays, "rhombuses", {"size": 3}),
    (arrays, "rhombus_vertices", {"rhombus": ("left", 1, 1)}),
    (arrays, "slack", {"array": E, "rhombus": ("left", 1, 1)}),
    (arrays, "slacks", {"array": E}),
    (arrays, "is_concave", {"array": E}),
    (arrays, "rotate", {"array": E}),
    (arrays, "reflect", {"array": E}),
    (arrays, "scale_array", {"array": E, "factor": 4}),
    (arrays, "add_arrays", {"first": E, "second": bowl(2)}),
    (concave, "solutions", ABC),
    (concave, "count_solutions", ABC),
    (concave, "solution_by_rank", {**ABC, "rank": 1}),
    (concave, "rank_of", {"array": E}),
    (concave, "entry_range", {**ABC, "vertex": (2, 1)}),
    (concave, "third_borders", {"a": (2, 1, 0), "b": (3, 1, 0)}),
    (tilings, "check_tiling", {"size": 2, "value": TILING}),
    (tilings, "is_tiling", {"size": 2, "value": TILING}),
    (tilings, "edge_labels", {"size": 2, "tiling": TILING}),
    (tilings, "border_sets", {"size": 2, "tiling": TILING}),
    (tilings, "tilings", {"size": 3}),
    (tilings, "tilings_with", {"size": 2, "i": (2,), "j": (1,), "k": (2,)}),
    (inequalities, "gap", {**APART, "tiling": TILING}),
    (inequalities, "slack_certificate", {"array": E, "tiling": TILING}),
    (inequalities, "violated", APART),
    (inequalities, "decide", APART),
    (inequalities, "check_decision", {**APART, "answer": ("tiling", TILING)}),
    (matrices, "is_matrix", {"value": TWO}),
    (matrices, "is_prime", {"value": 7}),
    (matrices, "check_matrix", {"value": TWO}),
    (matrices, "check_prime", {"value": 7}),
    (matrices, "identity", {"size": 3}),
    (matrices, "product", {"left": TWO, "right": ((1, 0), (4, 1))}),
    (matrices, "determinant", {"matrix": TWO}),
    (matrices, "minor", {"matrix": TWO, "lines": (0, 1), "columns": (0, 1)}),
    (exponents, "order", {"value": 12, "prime": 2}),
    (exponents, "least_orders", {"matrix": TWO, "prime": 3}),
    (exponents, "exponents", {"matrix": TWO, "prime": 3}),
    (exponents, "certificate", {"matrix": TWO, "prime": 3}),
    (exponents, "check_certificate", {"matrix": ((2, 0), (0, 1)), "prime": 2, "certificate": (PLAIN, PLAIN)}),
    (tableaux, "is_tableau", {"value": TABLEAU}),
    (tableaux, "content", {"tableau": TABLEAU}),
    (tableaux, "outer_shape", {"base": (1, 0), "tableau": TABLEAU}),
    (tableaux, "is_steep", {"base": (1, 0), "tableau": TABLEAU}),
    (tableaux, "is_fair", {"tableau": TABLEAU}),
    (tableaux, "fits", {"base": (1, 0), "tableau": TABLEAU}),
    (tableaux, "array_of", {"base": (1, 0), "tableau": TABLEAU}),
    (tableaux, "tableau_of", {"array": E}),
    (factors, "lead", {"base": (1, 0), "prime": 3}),
    (factors, "factors", {"base": (1, 0), "tableau": TABLEAU, "prime": 3}),
    (factors, "tail", {"base": (1, 0), "tableau": TABLEAU, "prime": 3}),
    (factors, "realize", {**APART, "prime": 3}),
    (factors, "realize", {**ABC, "prime": 3}),
    (factors, "check_realization", {**APART, "prime": 3, "answer": ("tiling", TILING)}),
    (factors, "check_realization", {"a": (1, 0), "b": (1, 1), "c": (2, 1), "prime": 3, "answer": ("matrices", TABLEAU)}),
    (chains, "conjugate", {"partition": (3, 1)}),
    (chains, "chain", {"left": TWO, "right": ((9, 3), (0, 3)), "prime": 3}),
    (chains, "is_chain", {"value": ((1, 0), (2, 1))}),
    (chains, "raises_of", {"chain": ((1, 0), (2, 1))}),
    (chains, "chain_of", {"base": (1, 0), "tableau": ((1,), (1, 0))}),
    (products, "dimension", {"partition": (2, 1, 0)}),
    (products, "multiplicities", {"a": (3, 1), "b": (2, 0)}),
    (turning, "cross_pair", {"first": E, "second": ((0,), (2, 3), (2, 3, 4))}),
    (turning, "stack_pair", {"first": E, "second": ((0,), (2, 4), (2, 4, 4))}),
    (catalogue, "Catalogue", {"size": 2, "prime": 5}),
    (catalogue, "read_catalogue", {"text": "catalogue 2 5\npartition abc 2 1"}),
)

# The functions that return a list, with more valid arguments.
LISTS = (
    (concave.solutions, ((2, 1, 0), (2, 1, 0), (3, 2, 1))),
    (concave.solutions, ((3, 2, 1, 0), (3, 2, 1, 0), (5, 4, 2, 1))),
    (concave.solutions, ((1,), (1,), (3,))),
    (tilings.tilings, (1,)),
    (tilings.tilings, (4,)),
    (tilings.tilings_with, (2, (2,), (1,), (2,))),
    (tilings.tilings_with, (3, (), (), (1,))),
    (inequalities.violated, ((2, 0), (0, 0), (1, 1))),
    (inequalities.violated, ((2, 0), (0, 0), (2, 0))),
    (catalogue.read_catalogue("catalogue 1 2\npartition b 1\npartition c 0").names, ()),
    (catalogue.Catalogue(1, 2).names, ()),
)


def fresh(value):
    """Return a value that is equal and shares no tuple and no text with it."""
    if isinstance(value, tuple):
        return tuple([fresh(part) for part in value])
    return "".join(list(value)) if isinstance(value, str) else value


def inner_parts(value):
    """Return the tuples and the texts of which a value consists, itself included."""
    if isinstance(value, tuple):
        return [value] * bool(value) + [each for part in value for each in inner_parts(part)]
    return [value] if isinstance(value, str) else []


def changeable_values():
    """Return values that a function could change; none is a valid argument."""
    return [
        [], [3, 1], [[0], [1, 2]], [(0,), (1, 2), (1, 2, 2)], ["flat", 0, 0], [1, 0],
        {}, {0: 1, "size": [2]}, {1: {2: [3]}}, set(), {1, 2},
    ]


def tuples_around(value):
    return [(value,), (3, value), ((0,), value), ((0,), (1, value)), ("flat", 0, value), (value, value, value)]


def outcome(function, *args, **named):
    """Return what the call returns, or the name of the exception that it raises."""
    try:
        return function(*args, **named)
    except ThreerimsError as error:
        return error.__class__.__name__


class Parameters(TestCase):

    def test_functions_are_defined_in_their_module(self):
        for module, name, _ in CALLS:
            with self.subTest(name):
                self.assertEqual(getattr(module, name).__module__, module.__name__)
                self.assertEqual(getattr(module, name).__name__, name)

    def test_parameters_have_their_names_and_order(self):
        for module, name, named in CALLS:
            with self.subTest(name):
                found = inspect.signature(getattr(module, name)).parameters
                self.assertEqual(tuple(found), tuple(named))

    def test_arguments_by_name_and_by_position(self):
        for module, name, named in CALLS:
            function = getattr(module, name)
            with self.subTest(name):
                expected = function(*named.values())
                self.assert_same(function(**named), expected)
                self.assert_same(function(**dict(reversed(named.items()))), expected)
                first, *rest = named
                self.assert_same(function(named[first], **{each: named[each] for each in rest}), expected)

    def test_every_argument_is_needed(self):
        for module, name, named in CALLS:
            with self.subTest(name):
                self.assertRaises(TypeError, getattr(module, name), *list(named.values())[:-1])
                self.assertRaises(TypeError, getattr(module, name), *named.values(), 1)

    def test_wrong_arguments_by_name(self):
        for module, name, named in CALLS:
            function = getattr(module, name)
            for wrong in named:
                arguments = dict(named, **{wrong: None})
                with self.subTest(name):
                    self.assertEqual(outcome(function, **arguments), outcome(function, *arguments.values()))


class Arguments(TestCase):

    def test_wrong_arguments_are_not_changed(self):
        for module, name, named in CALLS:
            function = getattr(module, name)
            for at in range(len(named)):
                for before, value in zip(changeable_values(), changeable_values()):
                    arguments = list(named.values())
                    arguments[at] = value
                    outcome(function, *arguments)
                    self.assert_same(value, before)
                    for around in tuples_around(value):
                        arguments[at] = around
                        outcome(function, *arguments)
                        self.assert_same(value, before)

    def test_wrong_arguments_are_not_kept(self):
        for module, name, named in CALLS:
            for at in range(len(named)):
                arguments = list(named.values())
                for around in range(7):
                    held = Plain()
                    seen = weakref.ref(held)
                    arguments[at] = ([held] + tuples_around(held))[around]
                    outcome(getattr(module, name), *arguments)
                    arguments[at] = held = None
                    gc.collect(0)
                    self.assertIsNone(seen(), name)

    def test_valid_arguments_are_not_kept(self):
        size = 4
        array = make(size, lambda r, k: HUGE * (r + k))
        other = make(size, lambda r, k: HUGE * (r - k) - r * r)
        partition = tuple(HUGE - at for at in range(size))
        vertex, rhombus, factor = (size, size - 1), tuple(["left", size - 1, 1]), HUGE - 1
        held = [array, other, partition, vertex, rhombus, factor, array[2], array[2][1], partition[1]]
        before = [sys.getrefcount(each) for each in held]
        for _ in range(3):
            partitions.is_integer(factor)
            for function in (partitions.check_partition, partitions.is_partition, partitions.negate):
                function(partition)
            partitions.shift(partition, factor)
            partitions.scale_partition(partition, factor)
            partitions.add_partitions(partition, partition)
            for function in (arrays.check_array, arrays.is_array, arrays.size_of, arrays.borders, arrays.slacks,
                             arrays.is_concave, arrays.rotate, arrays.reflect):
                function(array)
            arrays.entry(array, vertex)
            arrays.flat_differences(array, size)
            arrays.rhombus_vertices(rhombus)
            arrays.slack(array, rhombus)
            arrays.scale_array(array, factor)
            arrays.add_arrays(array, other)
        gc.collect()
        self.assertEqual([sys.getrefcount(each) for each in held], before)

    def test_no_part_of_a_valid_argument_is_kept(self):
        for module, name, named in CALLS:
            arguments = [fresh(value) for value in named.values()]
            held = [each for value in arguments for each in inner_parts(value)]
            before = [sys.getrefcount(each) for each in held]
            for _ in range(3):
                getattr(module, name)(*arguments)
            gc.collect(0)
            self.assertEqual([sys.getrefcount(each) for each in held], before, name)
            self.assert_same(tuple(arguments), tuple(named.values()))

    def test_fields_of_exceptions_are_the_objects_that_were_passed(self):
        for module, name, named in CALLS:
            for parameter in named:
                for value in (Plain(), [1], (Plain(),), "".join(["a", "b"])):
                    try:
                        getattr(module, name)(**dict(named, **{parameter: value}))
                    except ThreerimsError as error:
                        if hasattr(error, "value"):
                            self.assertIs(error.value, value)

    def test_returned_lists_may_be_changed(self):
        changes = (list.clear, list.reverse, lambda found: found.append(1), lambda found: found.extend(found + [None]))
        for function, arguments in LISTS:
            expected = function(*arguments)
            for change in changes:
                found = function(*arguments)
                self.assert_same(found, expected)
                self.assertIsNot(found, expected)
                change(found)
                self.assert_same(function(*arguments), expected)

    def test_calls_do_not_depend_on_earlier_calls(self):
        for module, name, named in CALLS:
            function = getattr(module, name)
            expected = function(**named)
            for other in named:
                outcome(function, **dict(named, **{other: [1, 2]}))
            self.assert_same(function(**named), expected)
