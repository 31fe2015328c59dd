"""threerims.catalogue: long runs of changes against a plain record, and the texts of catalogues; [100] to [102]."""

import gc
import itertools
import re
import string
import sys
import time
import weakref

from threerims import catalogue as module
from threerims.catalogue import Catalogue, catalogue_text, read_catalogue
from threerims.concave import count_solutions
from threerims.errors import (
    DuplicateName,
    InvalidName,
    InvalidPartition,
    InvalidPrime,
    InvalidSize,
    LimitExceeded,
    NothingToUndo,
    ParseError,
    SizeMismatch,
    ThreerimsError,
    UnknownName,
)
from threerims.factors import check_realization
from threerims.products import multiplicities
from tests.helper import (
    HUGE,
    PRIMES,
    THOUSAND_DIGITS,
    Numbers,
    Plain,
    TestCase,
    doubled,
    not_integers,
    partitions_from,
    wrong_nonnegatives,
    wrong_primes,
)

SMALL = (1, 2, 3, 4)
NAMES = ("a", "b", "ab", "abcdefgh", "z", "none", "zzzzzzzz")
WRONG_NAMES = ("", "A", "aB", "a1", "1", "a b", " a", "a ", "a\n", "\na", "a_b", "a-b", "abcdefghi", "x" * 20000, "-", "0",
               "none.", "Z", "[", "`", "{", "@")
METHODS = {
    "store": ("name", "partition"),
    "remove": ("name",),
    "rename": ("name", "other"),
    "undo": (),
    "partition": ("name",),
    "product": ("name", "other"),
    "contains": ("whole", "part", "rest"),
    "realize": ("first", "second", "third"),
    "names": (),
    "copy": (),
}


def wrong_names():
    """Return values that are not names."""
    return [value for label, value in not_integers() if label != "direction"] + [0, 1, HUGE] + list(WRONG_NAMES) + [
        ("a",), ["a"], b"a", {"a": 1}, (doubled(0), "a"), doubled("a")]


def filled(size=2, prime=5, stored=(("a", (2, 1)), ("b", (1, 0)), ("c", (3, 1)))):
    found = Catalogue(size, prime)
    for name, partition in stored:
        found.store(name, partition)
    return found


def content_of(catalogue):
    return {name: catalogue.partition(name) for name in catalogue.names()}


class Record:
    """What a catalogue must hold: all its states from the first on."""

    def __init__(self):
        self.states = [{}]

    def current(self):
        return self.states[-1]

    def change(self, state):
        self.states.append(state)

    def copy(self):
        other = Record()
        other.states = list(self.states)
        return other


class Construction(TestCase):

    def test_constant(self):
        self.assert_same(module.MAX_STORED, 12)

    def test_sizes_and_primes(self):
        for size, prime in itertools.product(SMALL, PRIMES):
            found = Catalogue(size, prime)
            self.assert_same((found.size, found.prime), (size, prime))
            self.assert_same((len(found), found.names()), (0, []))
            self.assert_raises(NothingToUndo, {}, found.undo)

    def test_wrong_sizes(self):
        for size in [value for _, value in not_integers()] + [0, -1, 5, 6, 7, HUGE, -HUGE, THOUSAND_DIGITS]:
            for prime in (2, 4, None, doubled(0)):
                self.assert_raises_with(InvalidSize, "value", size, Catalogue, size, prime)

    def test_wrong_primes(self):
        for prime in wrong_primes():
            for size in SMALL:
                self.assert_raises_with(InvalidPrime, "value", prime, Catalogue, size, prime)

    def test_methods_are_defined_in_the_class(self):
        for name in tuple(METHODS) + ("__init__", "__len__", "__eq__"):
            self.assertIn(name, vars(Catalogue))

    def test_arguments_by_name(self):
        self.assertEqual(Catalogue(prime=5, size=2), Catalogue(2, 5))
        for name, parameters in METHODS.items():
            values = {"store": ["d", (1, 1)], "rename": ["a", "d"]}.get(name, ["a", "b", "c"][:len(parameters)])
            one, two, three = filled(), filled(), filled()
            named = dict(zip(parameters, values))
            found = getattr(one, name)(*values)
            self.assertEqual(getattr(two, name)(**named), found)
            self.assertEqual(getattr(three, name)(**dict(reversed(named.items()))), found)
            self.assertTrue(one == two == three)
            self.assertRaises(TypeError, getattr(one, name), *values, 1)


class Store(TestCase):

    def test_stored_partitions(self):
        for size in SMALL:
            found = Catalogue(size, 2)
            expected = {}
            for at, partition in enumerate(partitions_from(size, 0, 3) + [(12,) * size, (12,) + (0,) * (size - 1)]):
                name = string.ascii_lowercase[at % 26] * (at // 26 + 1)
                self.assertIsNone(found.store(name, partition))
                expected[name] = partition
            self.assertEqual(content_of(found), expected)
            self.assert_same(found.names(), sorted(expected))
            self.assert_same(len(found), len(expected))

    def test_names(self):
        found = Catalogue(1, 2)
        for name in NAMES:
            found.store(name, (3,))
        self.assert_same(found.names(), sorted(NAMES))

    def test_entries_at_the_limit(self):
        for size in SMALL:
            for first in (0, 11, 12, 13, 14, HUGE):
                found = Catalogue(size, 3)
                partition = (first,) + (0,) * (size - 1)
                if first <= 12:
                    found.store("a", partition)
                    self.assert_same(found.partition("a"), partition)
                else:
                    self.assert_raises(LimitExceeded, {"limit": 12}, found.store, "a", partition)
                    self.assert_raises(LimitExceeded, {"limit": 12}, found.store, "a", (first,) * size)

    def test_wrong_names(self):
        found = filled()
        for name in wrong_names():
            for partition in ((1, 0), None, (1,), (13, 0), doubled(0)):
                self.assert_raises_with(InvalidName, "value", name, found.store, name, partition)
        self.assertEqual(found, filled())

    def test_names_in_use(self):
        found = filled()
        for name in ("a", "b", "c"):
            for partition in ((1, 0), None, (1,), (13, 0), (0, 1), doubled(0)):
                self.assert_raises_with(DuplicateName, "name", name, found.store, name, partition)
        self.assertEqual(found, filled())

    def test_wrong_partitions(self):
        for size in SMALL:
            found = Catalogue(size, 2)
            for label, value, position in wrong_nonnegatives():
                with self.subTest(label):
                    self.assert_raises(InvalidPartition, {"position": position}, found.store, "a", value)
            self.assertEqual(found.names(), [])

    def test_wrong_sizes(self):
        for size in SMALL:
            found = Catalogue(size, 2)
            for other in (1, 2, 3, 4, 5, 6):
                for first in (0, 12, 13):
                    if other != size:
                        self.assert_raises(SizeMismatch, {"sizes": (size, other)},
                                           found.store, "a", (first,) + (0,) * (other - 1))


class Names(TestCase):

    def test_unknown_names(self):
        found = filled()
        for name in wrong_names() + ["d", "aa", "x"]:
            self.assert_raises_with(UnknownName, "name", name, found.remove, name)
            self.assert_raises_with(UnknownName, "name", name, found.partition, name)
            for other in ("d", "a", "A", None, name, doubled(0)):
                self.assert_raises_with(UnknownName, "name", name, found.rename, name, other)
                self.assert_raises_with(UnknownName, "name", name, found.product, name, other)
                for third in ("b", None, doubled(0)):
                    for method in (found.contains, found.realize):
                        self.assert_raises_with(UnknownName, "name", name, method, name, other, third)
                        self.assert_raises_with(UnknownName, "name", name, method, "a", name, other)
                        self.assert_raises_with(UnknownName, "name", name, method, "a", "b", name)
            self.assert_raises_with(UnknownName, "name", name, found.product, "c", name)
        self.assertEqual(found, filled())

    def test_names_that_have_been_removed(self):
        found = filled()
        found.remove("a")
        self.assert_raises_with(UnknownName, "name", "a", found.partition, "a")
        self.assert_raises_with(UnknownName, "name", "a", found.remove, "a")
        found.rename("b", "a")
        self.assert_same(found.partition("a"), (1, 0))
        self.assert_raises_with(UnknownName, "name", "b", found.partition, "b")

    def test_wrong_new_names(self):
        found = filled()
        for name in wrong_names():
            self.assert_raises_with(InvalidName, "value", name, found.rename, "a", name)
        for name in ("a", "b", "c"):
            self.assert_raises_with(DuplicateName, "name", name, found.rename, "a", name)
        self.assertEqual(found, filled())
        self.assertEqual(found.names(), ["a", "b", "c"])

    def test_returned_names_may_be_changed(self):
        found = filled()
        found.names().clear()
        found.names().append("x")
        self.assert_same(found.names(), ["a", "b", "c"])


class Answers(TestCase):

    def test_products(self):
        for size in SMALL:
            partitions = partitions_from(size, 0, (5, 3, 2, 1)[size - 1]) + [(8,) * size, (9,) + (0,) * (size - 1)]
            for a, b in itertools.product(partitions, repeat=2):
                found = filled(size, 2, (("a", a), ("b", b)))
                if b[0] > 8:
                    self.assert_raises(LimitExceeded, {"limit": 8}, found.product, "a", "b")
                else:
                    self.assert_same(found.product("a", "b"), multiplicities(a, b))
                    self.assert_same(found.product("b", "b"), multiplicities(b, b))

    def test_contains(self):
        for size in SMALL:
            for a, b, c in itertools.product(partitions_from(size, 0, (3, 2, 1, 1)[size - 1]), repeat=3):
                found = filled(size, 2, (("a", a), ("b", b), ("c", c)))
                self.assert_same(found.contains("c", "a", "b"), count_solutions(a, b, c) > 0)
                self.assert_same(found.contains("a", "b", "c"), count_solutions(b, c, a) > 0)

    def test_greatest_partitions(self):
        for size in SMALL:
            wide, zero = (12,) + (0,) * (size - 1), (0,) * size
            found = filled(size, 97, (("wide", wide), ("zero", zero)))
            self.assert_same(found.contains("wide", "wide", "zero"), True)
            self.assert_same(found.contains("wide", "zero", "wide"), True)
            self.assert_same(found.contains("wide", "wide", "wide"), False)

    def test_realize(self):
        for size in SMALL:
            for a, b, c in itertools.product(partitions_from(size, 0, (3, 2, 1, 1)[size - 1]), repeat=3):
                found = filled(size, 3, (("a", a), ("b", b), ("c", c)))
                answer = found.realize("a", "b", "c")
                self.assert_same(check_realization(a, b, c, 3, answer), answer[0])
                self.assertEqual(answer[0] == "matrices", found.contains("c", "a", "b"))
                if answer[0] == "sums":
                    self.assert_same(answer[1], sum(a) + sum(b) - sum(c))


class Changes(TestCase):

    def assert_recorded(self, catalogue, record):
        self.assertEqual(content_of(catalogue), record.current())
        self.assert_same(catalogue.names(), sorted(record.current()))
        self.assert_same(len(catalogue), len(record.current()))

    def some_name(self, numbers, state):
        """Return a name that is in use or not, or no name."""
        if state and numbers.below(3):
            return sorted(state)[numbers.below(len(state))]
        return ("a", "b", "c", "d", "e", "ab", "", "A", "abcdefghi", None)[numbers.below(10)]

    def change(self, numbers, catalogue, record):
        """Make one change, which may not be possible, and record it."""
        state = record.current()
        name, other = self.some_name(numbers, state), self.some_name(numbers, state)
        free = isinstance(other, str) and 1 <= len(other) <= 8 and other.islower() and other not in state
        kind = numbers.below(12)
        if kind < 5:
            size = catalogue.size + (numbers.below(9) == 0)
            partition = tuple(sorted((numbers.below(14) for _ in range(size)), reverse=True))
            possible = free and size == catalogue.size and partition[0] <= 12
            self.attempt(possible, catalogue.store, other, partition)
            if possible:
                record.change({**state, other: partition})
        elif kind < 7:
            self.attempt(name in state, catalogue.remove, name)
            if name in state:
                record.change({key: state[key] for key in state if key != name})
        elif kind < 10:
            self.attempt(name in state and free, catalogue.rename, name, other)
            if name in state and free:
                record.change({(other if key == name else key): state[key] for key in state})
        elif kind == 10:
            possible = len(record.states) > 1
            self.attempt(possible, catalogue.undo)
            if possible:
                record.states.pop()
        else:
            for method in (catalogue.partition, catalogue.remove):
                self.attempt(False, method, "unknown")
            self.attempt(False, catalogue.store, "a", (1,) * 5)

    def attempt(self, possible, method, *args):
        if possible:
            self.assertIsNone(method(*args))
        else:
            with self.assertRaises(ThreerimsError):
                method(*args)

    def test_long_runs(self):
        for size in SMALL:
            for seed in range(6):
                numbers = Numbers(1000 * size + seed)
                catalogue, record = Catalogue(size, 2), Record()
                for _ in range(200):
                    self.change(numbers, catalogue, record)
                    self.assert_recorded(catalogue, record)
                self.assertGreater(len(record.states), 9)
                while len(record.states) > 1:
                    self.assertIsNone(catalogue.undo())
                    record.states.pop()
                    self.assert_recorded(catalogue, record)
                self.assert_raises(NothingToUndo, {}, catalogue.undo)
                self.assertEqual(catalogue, Catalogue(size, 2))

    def test_copies_go_apart(self):
        for seed in range(8):
            numbers = Numbers(seed)
            pairs = [(Catalogue(2, 3), Record())]
            for _ in range(150):
                catalogue, record = pairs[numbers.below(len(pairs))]
                if len(pairs) < 4 and numbers.below(20) == 0:
                    other = catalogue.copy()
                    self.assertIs(other.__class__, Catalogue)
                    self.assertTrue(other == catalogue and other is not catalogue)
                    self.assert_same((other.size, other.prime), (2, 3))
                    pairs.append((other, record.copy()))
                self.change(numbers, catalogue, record)
                for each, its_record in pairs:
                    self.assert_recorded(each, its_record)
            self.assertEqual(len(pairs), 4)
            for catalogue, record in pairs:
                for _ in record.states[1:]:
                    catalogue.undo()
                self.assert_raises(NothingToUndo, {}, catalogue.undo)
                self.assertEqual(catalogue, Catalogue(2, 3))

    def test_undo_of_every_kind_of_change(self):
        found = filled()
        found.remove("a")
        found.rename("b", "a")
        found.rename("c", "b")
        expected = [{"a": (1, 0), "b": (3, 1)}, {"a": (1, 0), "c": (3, 1)}, {"b": (1, 0), "c": (3, 1)},
                    {"a": (2, 1), "b": (1, 0), "c": (3, 1)}, {"a": (2, 1), "b": (1, 0)}, {"a": (2, 1)}, {}]
        for at, state in enumerate(expected):
            self.assertEqual(content_of(found), state)
            if at + 1 < len(expected):
                self.assertIsNone(found.undo())
        self.assert_raises(NothingToUndo, {}, found.undo)

    def test_undone_changes_are_gone(self):
        found = filled()
        found.undo()
        found.store("d", (0, 0))
        found.undo()
        found.undo()
        self.assertEqual(content_of(found), {"a": (2, 1)})

    def test_failed_changes_are_not_recorded(self):
        found = filled(stored=(("a", (2, 1)),))
        for call in (lambda: found.store("a", (1, 0)), lambda: found.store("b", (1,)), lambda: found.store("b", (13, 0)),
                     lambda: found.remove("b"), lambda: found.rename("a", "a"), lambda: found.rename("a", "A"),
                     lambda: found.store("B", (1, 0)), lambda: found.store("b", (0, -1))):
            self.assertRaises(ThreerimsError, call)
            self.assertEqual(found, filled(stored=(("a", (2, 1)),)))
        found.undo()
        self.assertEqual(len(found), 0)

    def test_an_answer_is_no_change(self):
        found = filled()
        found.names(), found.partition("a"), found.product("a", "b"), found.copy(), len(found), found == found
        found.contains("a", "b", "c"), found.realize("a", "b", "c"), catalogue_text(found)
        found.undo()
        self.assertEqual(found.names(), ["a", "b"])


class Equality(TestCase):

    def test_equal_catalogues(self):
        one, two = filled(), filled(stored=(("c", (3, 1)), ("x", (1, 0)), ("a", (2, 1))))
        self.assertFalse(one == two)
        two.rename("x", "b")
        self.assertIs(one == two, True)
        self.assertIs(one != two, False)
        two.undo()
        self.assertIs(one == two, False)
        self.assertIs(one != two, True)

    def test_different_catalogues(self):
        every = [Catalogue(2, 5), Catalogue(2, 3), Catalogue(3, 5), filled(), filled(prime=7),
                 filled(stored=(("a", (2, 1)), ("b", (1, 0)))), filled(stored=(("a", (2, 1)), ("b", (1, 0)), ("d", (3, 1)))),
                 filled(stored=(("a", (2, 1)), ("b", (1, 0)), ("c", (3, 2)))), Catalogue(1, 2),
                 filled(3, 5, (("a", (2, 1, 0)),)), filled(1, 5, (("a", (2,)),)), filled(2, 5, (("a", (2, 2)),))]
        for (at, one), (place, two) in itertools.product(enumerate(every), repeat=2):
            self.assertIs(one == two, at == place)
            self.assertIs(one != two, at != place)

    def test_other_objects(self):
        found = filled()
        for value in [value for _, value in not_integers()] + [0, catalogue_text(found), {"a": (2, 1)}, Plain()]:
            self.assertTrue((found == value) is False)
            self.assertTrue((value == found) is False)
            self.assertTrue((found != value) is True)


class Texts(TestCase):

    def test_text(self):
        self.assert_same(catalogue_text(filled()), "catalogue 2 5\npartition a 2 1\npartition b 1 0\npartition c 3 1")
        self.assert_same(catalogue_text(Catalogue(4, 97)), "catalogue 4 97")
        found = filled(1, 2, (("z", (12,)), ("ab", (0,)), ("b", (10,))))
        self.assert_same(catalogue_text(found), "catalogue 1 2\npartition ab 0\npartition b 10\npartition z 12")

    def test_arguments_by_name(self):
        self.assert_same(catalogue_text(catalogue=Catalogue(3, 7)), "catalogue 3 7")
        self.assertEqual(read_catalogue(text="catalogue 3 7"), Catalogue(3, 7))
        self.assertRaises(TypeError, catalogue_text)
        self.assertRaises(TypeError, read_catalogue)

    def test_there_and_back(self):
        for size in SMALL:
            numbers = Numbers(size)
            for many in (0, 1, 5, 60):
                found = Catalogue(size, PRIMES[numbers.below(25)])
                while len(found) < many:
                    name = "".join(string.ascii_lowercase[numbers.below(26)] for _ in range(1 + numbers.below(8)))
                    if name not in found.names():
                        found.store(name, tuple(sorted((numbers.below(13) for _ in range(size)), reverse=True)))
                text = catalogue_text(found)
                again = read_catalogue(text)
                self.assertTrue(again == found)
                self.assert_same(catalogue_text(again), text)
                self.assertEqual(text.count("\n"), many)
                self.assert_raises(NothingToUndo, {}, again.undo)

    def test_catalogues_that_were_read_can_be_changed(self):
        found = read_catalogue("catalogue 2 5\npartition a 2 1")
        self.assert_raises(NothingToUndo, {}, found.undo)
        found.store("b", (12, 0))
        found.remove("a")
        found.undo()
        found.undo()
        self.assert_raises(NothingToUndo, {}, found.undo)
        self.assertEqual(catalogue_text(found), "catalogue 2 5\npartition a 2 1")

    def test_every_size_and_prime(self):
        for size, prime in itertools.product(range(-1, 12), range(-1, 130)):
            text = f"catalogue {size} {prime}"
            if not 1 <= size <= 4:
                self.assert_raises(ParseError, {"line": 1, "word": 2}, read_catalogue, text)
            elif prime not in PRIMES:
                self.assert_raises(ParseError, {"line": 1, "word": 3}, read_catalogue, text)
            else:
                self.assertEqual(read_catalogue(text), Catalogue(size, prime))

    def test_every_small_partition(self):
        for entries in itertools.product(range(-1, 15), repeat=2):
            text = "catalogue 2 5\npartition a " + " ".join(str(entry) for entry in entries)
            wrong = [at for at, entry in enumerate(entries) if not 0 <= entry <= min((12,) + entries[:at])]
            if wrong:
                self.assert_raises(ParseError, {"line": 2, "word": 3 + wrong[0]}, read_catalogue, text)
            else:
                self.assertEqual(read_catalogue(text), filled(stored=(("a", entries),)))


class ParseErrors(TestCase):

    TEXT = "catalogue 2 5\npartition a 2 1\npartition b 1 0\npartition cd 12 12"
    WORDS = ("x", "A", "-1", "+1", "01", "00", "1.0", "1_0", "0x1", "13", "99", "1000000", "9" * 5000, "\t", "a\tb", "a1",
             "abcdefghi", "partition", "catalogue", "Catalogue", "1a", "2", "0", "zz", "a", "b", "cd", "12")

    def assert_refused(self, text, line, word):
        self.assert_raises(ParseError, {"line": line, "word": word}, read_catalogue, text)

    def allowed(self, line, place, word, before, name):
        """Return whether the word is allowed at its place, both counted from 1."""
        number = int(word) if re.fullmatch("0|[1-9][0-9]?", word) else None
        if line == 1:
            return (word == "catalogue", number in (1, 2, 3, 4), number in PRIMES)[place - 1]
        if place == 1:
            return word == "partition"
        if place == 2:
            return word.isalpha() and word.islower() and len(word) <= 8 and word > name
        return number is not None and number <= before

    def expected(self, text):
        """Return the line and the word that ParseError must name, or None."""
        name, size = "", 2
        for at, line in enumerate(text.split("\n"), 1):
            words = line.split(" ")
            if "" in words:
                return at, 0
            before = 12
            length = 3 if at == 1 else 2 + size
            for place in range(1, max(length, len(words)) + 1):
                if place > len(words) or place > length:
                    return at, place
                if not self.allowed(at, place, words[place - 1], before, name):
                    return at, place
                if at == 1 and place == 2:
                    size = int(words[1])
                if at > 1 and place > 2:
                    before = int(words[place - 1])
            name = words[1] if at > 1 else ""
        return None

    def assert_as_expected(self, text):
        expected = self.expected(text)
        if expected:
            self.assert_refused(text, *expected)
        else:
            self.assert_same(catalogue_text(read_catalogue(text)), text)
        return expected

    def test_example(self):
        self.assert_refused("catalogue 2 5\npartition a 2 x", 2, 4)

    def test_text_itself(self):
        self.assertIsNone(self.assert_as_expected(self.TEXT))

    def test_texts_that_differ_by_a_word(self):
        seen = set()
        lines = [line.split(" ") for line in self.TEXT.split("\n")]
        for at, words in enumerate(lines):
            for place in range(len(words) + 1):
                for word in self.WORDS:
                    for changed in (words[:place] + [word] + words[place + 1:], words[:place] + [word] + words[place:],
                                    words[:place] + words[place + 1:]):
                        new = lines[:at] + [changed] + lines[at + 1:]
                        seen.add(self.assert_as_expected("\n".join(" ".join(each) for each in new)))
        self.assertIn((1, 4), seen)
        self.assertIn((4, 5), seen)
        self.assertIn(None, seen)

    def test_texts_that_differ_by_a_line(self):
        lines = self.TEXT.split("\n")
        others = lines + ["", " ", "  ", "partition", "partition a", "partition d 1", "partition d 1 2", "partition d 2 1 0",
                          "catalogue 3 5", "catalogue 2 5 7", "catalogue", "catalogue 2", "catalogue 1 2", "partition"]
        for at in range(len(lines) + 1):
            for other in others:
                self.assert_as_expected("\n".join(lines[:at] + [other] + lines[at:]))
                self.assert_as_expected("\n".join(lines[:at] + [other] + lines[at + 1:]))
            self.assert_as_expected("\n".join(lines[:at] + lines[at + 1:]))

    def test_texts_that_differ_by_a_sign(self):
        for at in range(len(self.TEXT) + 1):
            for sign in " \na0-\t":
                self.assert_as_expected(self.TEXT[:at] + sign + self.TEXT[at:])
                self.assert_as_expected(self.TEXT[:at] + sign + self.TEXT[at + 1:])
            self.assert_as_expected(self.TEXT[:at] + self.TEXT[at + 1:])
            self.assert_as_expected(self.TEXT[:at])

    def test_empty_lines_and_spaces(self):
        for text, line in (("", 1), (" ", 1), ("\n", 1), ("\n\n", 1), ("catalogue 2 5\n", 2), (" catalogue 2 5", 1),
                           ("catalogue 2 5 ", 1), ("catalogue  2 5", 1), ("x  y", 1), ("catalogue 2 5\n\n", 2),
                           ("catalogue 2 5\npartition a 2 1\n", 3), ("catalogue 2 5\n partition a 2 1", 2),
                           ("catalogue 2 5\npartition a 2 x  ", 2)):
            self.assert_refused(text, line, 0)

    def test_missing_words(self):
        for text, line, word in (("catalogue", 1, 2), ("catalogue 2", 1, 3), ("catalogue 2 5\npartition", 2, 2),
                                 ("catalogue 2 5\npartition a", 2, 3), ("catalogue 2 5\npartition a 1", 2, 4),
                                 ("catalogue 3 5\npartition a 1 1", 2, 5), ("x", 1, 1), ("catalogue x", 1, 2)):
            self.assert_refused(text, line, word)

    def test_words_too_many(self):
        self.assert_refused("catalogue 2 5 5", 1, 4)
        self.assert_refused("catalogue 2 5\npartition a 1 1 1", 2, 5)
        self.assert_refused("catalogue 2 5\npartition a 1 1 x y z", 2, 5)
        self.assert_refused("catalogue 2 5 x\npartition a 1 1 1", 1, 4)

    def test_order_of_the_names(self):
        self.assert_refused("catalogue 1 2\npartition b 1\npartition a 1", 3, 2)
        self.assert_refused("catalogue 1 2\npartition a 1\npartition a 1", 3, 2)
        self.assert_refused("catalogue 1 2\npartition ab 1\npartition b 1\npartition aa 1", 4, 2)
        self.assert_refused("catalogue 1 2\npartition b 1\npartition a 13", 3, 2)
        self.assertEqual(read_catalogue("catalogue 1 2\npartition a 1\npartition aa 1\npartition ab 1").names(),
                         ["a", "aa", "ab"])

    def test_values_that_are_no_texts(self):
        for value in [value for _, value in not_integers() if not isinstance(value, str)] + [0, HUGE, b"", b"catalogue 2 5"]:
            self.assert_refused(value, 0, 0)
        self.assert_refused([self.TEXT], 0, 0)
        self.assert_refused((self.TEXT,), 0, 0)

    def test_long_texts(self):
        self.assert_refused("x" * 20000, 1, 1)
        self.assert_refused(" " * 20000, 1, 0)
        self.assert_refused("\n" * 20000, 1, 0)
        self.assert_refused("catalogue " + "1" * 19990, 1, 2)
        self.assert_refused("catalogue 2 " + "7" * 19988, 1, 3)
        self.assert_refused("catalogue 1 2\npartition a " + "0" * 19970, 2, 3)
        self.assert_refused("catalogue 1 2\npartition " + "a" * 19970 + " 1", 2, 2)
        names = ["".join(each) for each in itertools.product(string.ascii_lowercase, repeat=3)][:1200]
        text = "\n".join(["catalogue 1 2"] + [f"partition {name} 9" for name in names])
        self.assertGreater(len(text), 19000)
        self.assertEqual(len(read_catalogue(text)), 1200)
        self.assert_refused(text + "\n", 1202, 0)


class Arguments(TestCase):

    def test_arguments_are_not_kept(self):
        name, other, partition = "".join(["ab", "cd"]), "".join(["ef", "gh"]), tuple([7, 3])
        found = Catalogue(2, 5)
        text = catalogue_text(filled()) + ""
        held = [name, other, partition, text]
        before = [sys.getrefcount(each) for each in held]
        found.store(name, partition)
        found.rename(name, other)
        found.remove(other)
        found.undo()
        found.undo()
        found.rename(name, other)
        found.partition(other), found.product(other, other), found.contains(other, other, other)
        found.realize(other, other, other), read_catalogue(text)
        gc.collect()
        self.assertEqual([sys.getrefcount(each) for each in held], before)

    def test_wrong_arguments_are_not_kept(self):
        found = filled()
        for call in (lambda value: found.store(value, (1, 0)), lambda value: found.store("d", value),
                     lambda value: found.remove(value), lambda value: found.rename("a", value),
                     lambda value: found.realize("a", value, "b"), lambda value: Catalogue(value, 2),
                     lambda value: Catalogue(2, value), read_catalogue):
            value = Plain()
            seen = weakref.ref(value)
            with self.assertRaises(ThreerimsError):
                call(value)
            value = None
            gc.collect(0)
            self.assertIsNone(seen())

    def test_a_copy_is_not_kept(self):
        found = filled()
        other = found.copy()
        self.assertTrue(other == found and catalogue_text(other) == catalogue_text(found))
        seen = weakref.ref(other)
        other = None
        gc.collect(0)
        self.assertIsNone(seen())


class Times(TestCase):

    def test_long_runs(self):
        start = time.process_time()
        found = Catalogue(2, 2)
        for _ in range(20000):
            found.store("a", (2, 1))
            found.rename("a", "b")
            found.remove("b")
        other = found.copy()
        for _ in range(60000):
            other.undo()
        self.assertEqual(len(other), 0)
        self.assertLess(time.process_time() - start, 10)
