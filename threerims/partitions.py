"""Partitions: tuples of 1 to MAX_SIZE integers in weakly decreasing order."""

from threerims.errors import InvalidFactor, InvalidPartition, SizeMismatch

MAX_SIZE = 6


def is_integer(value):
    """Return whether the value is an integer; True and False are none."""
    return isinstance(value, int) and not isinstance(value, bool)


def check_descending(value):
    """Raise InvalidPartition if an item of the tuple is not an integer or is greater than the item before it."""
    for position, item in enumerate(value):
        if not is_integer(item):
            raise InvalidPartition(position)
        if position > 0 and item > value[position - 1]:
            raise InvalidPartition(position)


def check_partition(value):
    """Return None if the value is a partition, and raise InvalidPartition otherwise."""
    if not isinstance(value, tuple) or not 1 <= len(value) <= MAX_SIZE:
        raise InvalidPartition(None)
    check_descending(value)


def check_nonnegative(value):
    """Return None if the value is a nonnegative partition, and raise InvalidPartition otherwise."""
    check_partition(value)
    for position, item in enumerate(value):
        if item < 0:
            raise InvalidPartition(position)


def is_partition(value):
    """Return whether the value is a partition."""
    try:
        check_partition(value)
    except InvalidPartition:
        return False
    return True


def check_equal_sizes(values):
    """Check every value as a partition, and raise SizeMismatch if their sizes are not all equal."""
    for value in values:
        check_partition(value)
    compare_sizes(values)


def compare_sizes(values):
    """Raise SizeMismatch if the sizes of the tuples are not all equal."""
    sizes = tuple([len(value) for value in values])
    if min(sizes) != max(sizes):
        raise SizeMismatch(sizes)


def check_factor(value):
    """Return None if the value is an integer that is at least 0, and raise InvalidFactor otherwise."""
    if not is_integer(value) or value < 0:
        raise InvalidFactor(value)


def negate(partition):
    """Return the negated entries in reverse order."""
    check_partition(partition)
    return tuple([-item for item in partition[::-1]])


def shift(partition, amount):
    """Return the partition with the amount added to every entry."""
    check_partition(partition)
    if not is_integer(amount):
        raise InvalidFactor(amount)
    return tuple([item + amount for item in partition])


def scale_partition(partition, factor):
    """Return the partition with every entry multiplied by the factor."""
    check_partition(partition)
    check_factor(factor)
    return tuple([item * factor for item in partition])


def add_partitions(first, second):
    """Return the sums of the entries at equal positions."""
    check_equal_sizes((first, second))
    return tuple([left + right for left, right in zip(first, second)])
