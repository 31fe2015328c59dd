"""The exception classes of both parts."""

import inspect

from threerims import errors
from threerims.errors import InvalidArray, InvalidPartition, InvalidTiling, ThreerimsError
from tests.helper import Plain, TestCase, doubled, doubled_list, nested

# The class, its parameters, and the defaults of its parameters.
CLASSES = (
    ("InvalidPartition", ("position",), (None,)),
    ("InvalidArray", ("row",), (None,)),
    ("InvalidVertex", ("value",), ()),
    ("InvalidRhombus", ("value",), ()),
    ("InvalidTiling", ("index",), (None,)),
    ("InvalidPositions", ("border",), ()),
    ("InvalidSize", ("value",), ()),
    ("InvalidFactor", ("value",), ()),
    ("InvalidRank", ("value",), ()),
    ("InvalidAnswer", ("part",), ()),
    ("SizeMismatch", ("sizes",), ()),
    ("LimitExceeded", ("limit",), ()),
    ("InvalidMatrix", ("value",), ()),
    ("InvalidPrime", ("value",), ()),
    ("InvalidIndex", ("value",), ()),
    ("InvalidTableau", ("value",), ()),
    ("InvalidChain", ("value",), ()),
    ("InvalidCertificate", ("reason",), ()),
    ("InvalidName", ("value",), ()),
    ("BorderMismatch", ("border",), ()),
    ("SingularMatrix", (), ()),
    ("UnknownName", ("name",), ()),
    ("DuplicateName", ("name",), ()),
    ("NothingToUndo", (), ()),
    ("ParseError", ("line", "word"), ()),
)


def any_values():
    """Return values of many kinds; no two are the same object."""
    return [None, True, 0, 10 ** 60, "text", b"bytes", (1, 2), [1, [2]], {"a": [1]}, {1, 2}, Plain(),
            ValueError("x"), nested(1), doubled(1), doubled_list(1)]


class ErrorClasses(TestCase):

    def test_base_class_is_a_value_error(self):
        self.assertEqual(ThreerimsError.__bases__, (ValueError,))

    def test_every_class_derives_from_the_base_class_alone(self):
        for name, _, _ in CLASSES:
            with self.subTest(name):
                self.assertEqual(getattr(errors, name).__bases__, (ThreerimsError,))

    def test_every_class_is_defined_in_this_module(self):
        for name in ("ThreerimsError",) + tuple(row[0] for row in CLASSES):
            with self.subTest(name):
                self.assertEqual(getattr(errors, name).__module__, "threerims.errors")
                self.assertEqual(getattr(errors, name).__name__, name)

    def test_every_class_defines_its_own_constructor(self):
        for name, _, _ in CLASSES:
            with self.subTest(name):
                self.assertIn("__init__", vars(getattr(errors, name)))

    def test_no_class_is_another_one(self):
        made = [getattr(errors, name) for name, _, _ in CLASSES]
        self.assertEqual(len({id(each) for each in made}), len(CLASSES))

    def test_parameters_have_their_names_and_order(self):
        for name, parameters, _ in CLASSES:
            with self.subTest(name):
                self.assertEqual(tuple(inspect.signature(getattr(errors, name)).parameters), parameters)

    def test_every_error_can_be_caught_as_its_bases(self):
        for name, parameters, _ in CLASSES:
            for base in (getattr(errors, name), ThreerimsError, ValueError):
                with self.subTest(name):
                    with self.assertRaises(base):
                        raise getattr(errors, name)(*parameters)


class Fields(TestCase):

    def test_arguments_by_position_are_the_fields(self):
        for name, parameters, _ in CLASSES:
            for value in any_values():
                values = [value] + any_values()[1:len(parameters)]
                made = getattr(errors, name)(*values[:len(parameters)])
                for at, field in enumerate(parameters):
                    self.assertTrue(getattr(made, field) is values[at], (name, field))

    def test_arguments_by_name_are_the_fields(self):
        for name, parameters, _ in CLASSES:
            for value in any_values():
                values = dict(zip(parameters, [value] + any_values()[1:]))
                made = getattr(errors, name)(**values)
                for field in parameters:
                    self.assertTrue(getattr(made, field) is values[field], (name, field))

    def test_arguments_by_name_in_another_order(self):
        line, word = object(), object()
        made = errors.ParseError(word=word, line=line)
        self.assertIs(made.line, line)
        self.assertIs(made.word, word)

    def test_raised_errors_keep_the_very_objects(self):
        for value in any_values():
            try:
                raise errors.InvalidVertex(value)
            except ThreerimsError as error:
                self.assertTrue(error.value is value)

    def test_default_fields(self):
        self.assertIsNone(InvalidPartition().position)
        self.assertIsNone(InvalidArray().row)
        self.assertIsNone(InvalidTiling().index)

    def test_only_three_parameters_have_a_default(self):
        for name, parameters, defaults in CLASSES:
            with self.subTest(name):
                found = inspect.signature(getattr(errors, name)).parameters.values()
                self.assertEqual(tuple(each.default for each in found if each.default is not each.empty), defaults)
                if len(parameters) > len(defaults):
                    self.assertRaises(TypeError, getattr(errors, name), *parameters[:-1])

    def test_no_class_takes_more_arguments(self):
        for name, parameters, _ in CLASSES:
            with self.subTest(name):
                self.assertRaises(TypeError, getattr(errors, name), *parameters, 1)
                self.assertRaises(TypeError, getattr(errors, name), *parameters, another=1)

    def test_each_object_has_its_own_fields(self):
        first, second = errors.InvalidSize(0), errors.InvalidSize(7)
        self.assertEqual((first.value, second.value), (0, 7))
