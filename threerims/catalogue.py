"""Catalogues: partitions of one size under names, with changes that can be undone, and their texts."""

from threerims.concave import MAX_ENUMERATED_SIZE, count_solutions
from threerims.errors import (
    DuplicateName,
    InvalidName,
    InvalidSize,
    LimitExceeded,
    NothingToUndo,
    ParseError,
    SizeMismatch,
    UnknownName,
)
from threerims.factors import realize
from threerims.matrices import check_prime, is_prime
from threerims.partitions import check_nonnegative, is_integer
from threerims.products import multiplicities

MAX_STORED = 12
MAX_LETTERS = 8
MAX_DIGITS = 6


def is_name(value):
    """Return whether the value is a text of one to eight letters from a to z."""
    if not isinstance(value, str) or len(value) > MAX_LETTERS:
        return False
    return value.isascii() and value.isalpha() and value.islower()


def read_number(word):
    """Return the integer that the word writes, or None if it writes none or has too many digits."""
    if len(word) > MAX_DIGITS or not word.isascii() or not word.isdigit():
        return None
    if word[0] == "0" and word != "0":
        return None
    return int(word)


def is_catalogue_size(value):
    """Return whether the value is a size that a catalogue can have."""
    return is_integer(value) and 1 <= value <= MAX_ENUMERATED_SIZE


class Catalogue:
    """Partitions of one size under names, for one prime."""

    def __init__(self, size, prime):
        if not is_catalogue_size(size):
            raise InvalidSize(size)
        check_prime(prime)
        self.size = size
        self.prime = prime
        self._partitions = {}
        # A change is a triple: the name that it has added, the name that it has removed, and the partition.
        self._changes = []

    def __len__(self):
        return len(self._partitions)

    def __eq__(self, other):
        return (
            isinstance(other, Catalogue)
            and self.size == other.size
            and self.prime == other.prime
            and self._partitions == other._partitions
        )

    def _find(self, name):
        """Return the partition that is stored under the name."""
        if not isinstance(name, str) or name not in self._partitions:
            raise UnknownName(name)
        return self._partitions[name]

    def _check_new(self, name):
        """Raise an error if nothing can be stored under the name."""
        if not is_name(name):
            raise InvalidName(name)
        if name in self._partitions:
            raise DuplicateName(name)

    def _exchange(self, added, removed, partition):
        """Replace one name by another one; either of them may be None."""
        if removed is not None:
            del self._partitions[removed]
        if added is not None:
            self._partitions[added] = partition

    def _change(self, added, removed, partition):
        """Replace one name by another one, and record this change."""
        self._exchange(added, removed, partition)
        self._changes.append((added, removed, partition))

    def store(self, name, partition):
        """Store a partition under a new name."""
        self._check_new(name)
        check_nonnegative(partition)
        if len(partition) != self.size:
            raise SizeMismatch((self.size, len(partition)))
        if partition[0] > MAX_STORED:
            raise LimitExceeded(MAX_STORED)
        self._change(copy_text(name), None, tuple(list(partition)))

    def remove(self, name):
        """Remove the partition that is stored under the name."""
        partition = self._find(name)
        self._change(None, copy_text(name), partition)

    def rename(self, name, other):
        """Give a stored partition another name."""
        partition = self._find(name)
        self._check_new(other)
        self._change(copy_text(other), copy_text(name), partition)

    def undo(self):
        """Undo the latest change that has not been undone."""
        if not self._changes:
            raise NothingToUndo()
        added, removed, partition = self._changes.pop()
        self._exchange(removed, added, partition)

    def partition(self, name):
        """Return the partition that is stored under the name."""
        return self._find(name)

    def product(self, name, other):
        """Return the multiplicities of two stored partitions."""
        first = self._find(name)
        second = self._find(other)
        return multiplicities(first, second)

    def contains(self, whole, part, rest):
        """Return whether one stored partition contains another one with the rest."""
        c = self._find(whole)
        a = self._find(part)
        b = self._find(rest)
        return count_solutions(a, b, c) > 0

    def realize(self, first, second, third):
        """Return what realize returns for three stored partitions."""
        a = self._find(first)
        b = self._find(second)
        c = self._find(third)
        return realize(a, b, c, self.prime)

    def names(self):
        """Return the list of the names, in ascending order."""
        return sorted(list(self._partitions))

    def copy(self):
        """Return an equal catalogue with the same recorded changes."""
        other = Catalogue(self.size, self.prime)
        other._partitions = {name: self._partitions[name] for name in self._partitions}
        other._changes = list(self._changes)
        return other

    def forget_changes(self):
        """Forget the recorded changes, so that none of them can be undone."""
        self._changes = []


def copy_text(text):
    """Return an equal text that is another object: an argument is never kept."""
    return "".join(list(text))


def write_words(words):
    """Return the words as one line."""
    return " ".join([str(word) for word in words])


def catalogue_text(catalogue):
    """Return the text of the catalogue."""
    lines = [write_words(("catalogue", catalogue.size, catalogue.prime))]
    for name in catalogue.names():
        lines.append(write_words(("partition", name) + catalogue.partition(name)))
    return "\n".join(lines)


def split_line(line, number):
    """Return the words of a line, and raise ParseError if the spaces are not as they must be."""
    words = line.split(" ")
    if "" in words:
        raise ParseError(number, 0)
    return words


def word_at(words, place, number):
    """Return the word at this place, counted from 1, of the line with this number."""
    if place > len(words):
        raise ParseError(number, place)
    return words[place - 1]


def check_end(words, many, number):
    """Raise ParseError if the line with this number has more words."""
    if len(words) > many:
        raise ParseError(number, many + 1)


def read_head(line):
    """Return the empty catalogue that the first line describes."""
    words = split_line(line, 1)
    if word_at(words, 1, 1) != "catalogue":
        raise ParseError(1, 1)
    size = read_number(word_at(words, 2, 1))
    if not is_catalogue_size(size):
        raise ParseError(1, 2)
    prime = read_number(word_at(words, 3, 1))
    if not is_prime(prime):
        raise ParseError(1, 3)
    check_end(words, 3, 1)
    return Catalogue(size, prime)


def read_row(line, number, size, last_name):
    """Return the name and the partition of a line. last_name is the name of the line before, or the empty text."""
    words = split_line(line, number)
    if word_at(words, 1, number) != "partition":
        raise ParseError(number, 1)
    name = word_at(words, 2, number)
    if not is_name(name) or name <= last_name:
        raise ParseError(number, 2)
    partition = ()
    greatest = MAX_STORED
    for place in range(3, size + 3):
        item = read_number(word_at(words, place, number))
        if item is None or item > greatest:
            raise ParseError(number, place)
        partition = partition + (item,)
        greatest = item
    check_end(words, size + 2, number)
    return name, partition


def read_catalogue(text):
    """Return the catalogue of the text, and raise ParseError if it is not the text of a catalogue."""
    if not isinstance(text, str):
        raise ParseError(0, 0)
    lines = text.split("\n")
    found = read_head(lines[0])
    name = ""
    for at in range(1, len(lines)):
        name, partition = read_row(lines[at], at + 1, found.size, name)
        found.store(name, partition)
    found.forget_changes()
    return found
