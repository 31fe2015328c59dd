"""[0] to [4]: arguments are neither changed nor kept, and may be passed by name."""

import gc
import inspect
import sys
import weakref

from threerims import arrays, partitions
from threerims.errors import ThreerimsError
from tests.helper import E, HUGE, Plain, TestCase, bowl, make

# The module, the function, and valid arguments by their names, in the order of the parameters.
CALLS = (
    (partitions, "is_integer", {"value": 3}),
    (partitions, "check_partition", {"value": (3, 1)}),
    (partitions, "is_partition", {"value": (3, 1)}),
    (partitions, "negate", {"partition": (3, 1)}),
    (partitions, "shift", {"partition": (3, 1), "amount": 4}),
    (partitions, "scale_partition", {"partition": (3, 1), "factor": 4}),
    (partitions, "add_partitions", {"first": (3, 1), "second": (9, 0)}),
    (arrays, "check_array", {"value": E}),
    (arrays, "is_array", {"value": E}),
    (arrays, "size_of", {"array": E}),
    (arrays, "borders", {"array": E}),
    (arrays, "entry", {"array": E, "vertex": (2, 1)}),
    (arrays, "flat_differences", {"array": E, "row": 1}),
    (arrays, "rhombuses", {"size": 3}),
    (arrays, "rhombus_vertices", {"rhombus": ("left", 1, 1)}),
    (arrays, "slack", {"array": E, "rhombus": ("left", 1, 1)}),
    (arrays, "slacks", {"array": E}),
    (arrays, "is_concave", {"array": E}),
    (arrays, "rotate", {"array": E}),
    (arrays, "reflect", {"array": E}),
    (arrays, "scale_array", {"array": E, "factor": 4}),
    (arrays, "add_arrays", {"first": E, "second": bowl(2)}),
)


def changeable_values():
    """Return values that a function could change; none is a valid argument."""
    return [
        [], [3, 1], [[0], [1, 2]], [(0,), (1, 2), (1, 2, 2)], ["flat", 0, 0], [1, 0],
        {}, {0: 1, "size": [2]}, {1: {2: [3]}}, set(), {1, 2},
    ]


def tuples_around(value):
    return [(value,), (3, value), ((0,), value), ((0,), (1, value)), ("flat", 0, value), (value, value, value)]


def outcome(function, *args, **named):
    """Return what the call returns, or the name of the exception that it raises."""
    try:
        return function(*args, **named)
    except ThreerimsError as error:
        return error.__class__.__name__


class Parameters(TestCase):

    def test_functions_are_defined_in_their_module(self):
        for module, name, _ in CALLS:
            with self.subTest(name):
                self.assertEqual(getattr(module, name).__module__, module.__name__)
                self.assertEqual(getattr(module, name).__name__, name)

    def test_parameters_have_their_names_and_order(self):
        for module, name, named in CALLS:
            with self.subTest(name):
                found = inspect.signature(getattr(module, name)).parameters
                self.assertEqual(tuple(found), tuple(named))

    def test_arguments_by_name_and_by_position(self):
        for module, name, named in CALLS:
            function = getattr(module, name)
            with self.subTest(name):
                expected = function(*named.values())
                self.assert_same(function(**named), expected)
                self.assert_same(function(**dict(reversed(named.items()))), expected)
                first, *rest = named
                self.assert_same(function(named[first], **{each: named[each] for each in rest}), expected)

    def test_every_argument_is_needed(self):
        for module, name, named in CALLS:
            with self.subTest(name):
                self.assertRaises(TypeError, getattr(module, name), *list(named.values())[:-1])
                self.assertRaises(TypeError, getattr(module, name), *named.values(), 1)

    def test_wrong_arguments_by_name(self):
        for module, name, named in CALLS:
            function = getattr(module, name)
            for wrong in named:
                arguments = dict(named, **{wrong: None})
                with self.subTest(name):
                    self.assertEqual(outcome(function, **arguments), outcome(function, *arguments.values()))


class Arguments(TestCase):

    def test_wrong_arguments_are_not_changed(self):
        for module, name, named in CALLS:
            function = getattr(module, name)
            for at in range(len(named)):
                for before, value in zip(changeable_values(), changeable_values()):
                    arguments = list(named.values())
                    arguments[at] = value
                    outcome(function, *arguments)
                    self.assert_same(value, before)
                    for around in tuples_around(value):
                        arguments[at] = around
                        outcome(function, *arguments)
                        self.assert_same(value, before)

    def test_wrong_arguments_are_not_kept(self):
        for module, name, named in CALLS:
            for at in range(len(named)):
                arguments = list(named.values())
                for around in range(7):
                    held = Plain()
                    seen = weakref.ref(held)
                    arguments[at] = ([held] + tuples_around(held))[around]
                    outcome(getattr(module, name), *arguments)
                    arguments[at] = held = None
                    gc.collect(0)
                    self.assertIsNone(seen(), name)

    def test_valid_arguments_are_not_kept(self):
        size = 4
        array = make(size, lambda r, k: HUGE * (r + k))
        other = make(size, lambda r, k: HUGE * (r - k) - r * r)
        partition = tuple(HUGE - at for at in range(size))
        vertex, rhombus, factor = (size, size - 1), tuple(["left", size - 1, 1]), HUGE - 1
        held = [array, other, partition, vertex, rhombus, factor, array[2], array[2][1], partition[1]]
        before = [sys.getrefcount(each) for each in held]
        for _ in range(3):
            partitions.is_integer(factor)
            for function in (partitions.check_partition, partitions.is_partition, partitions.negate):
                function(partition)
            partitions.shift(partition, factor)
            partitions.scale_partition(partition, factor)
            partitions.add_partitions(partition, partition)
            for function in (arrays.check_array, arrays.is_array, arrays.size_of, arrays.borders, arrays.slacks,
                             arrays.is_concave, arrays.rotate, arrays.reflect):
                function(array)
            arrays.entry(array, vertex)
            arrays.flat_differences(array, size)
            arrays.rhombus_vertices(rhombus)
            arrays.slack(array, rhombus)
            arrays.scale_array(array, factor)
            arrays.add_arrays(array, other)
        gc.collect()
        self.assertEqual([sys.getrefcount(each) for each in held], before)

    def test_calls_do_not_depend_on_earlier_calls(self):
        for module, name, named in CALLS:
            function = getattr(module, name)
            expected = function(**named)
            for other in named:
                outcome(function, **dict(named, **{other: [1, 2]}))
            self.assert_same(function(**named), expected)
