"""Dimensions of nonnegative partitions, and the multiplicities in their products.

A content lists how many entries 1, 2, ... a filling has.
"""

from threerims.concave import MAX_ENUMERATED_SIZE
from threerims.errors import LimitExceeded
from threerims.partitions import check_nonnegative, compare_sizes

MAX_FILLED = 8


def dimension(partition):
    """Return the number of fillings of the partition."""
    check_nonnegative(partition)
    dividend = 1
    divisor = 1
    for last in range(len(partition)):
        for first in range(last):
            dividend = dividend * (partition[first] - partition[last] + last - first)
            divisor = divisor * (last - first)
    return dividend // divisor


def smaller_partitions(partition):
    """Return the partitions that the entries below the greatest possible one of a filling can fill."""
    found = [()]
    for at in range(len(partition) - 1):
        # Below a place with the greatest entry there is no further place.
        found = [
            chosen + (item,)
            for chosen in found
            for item in range(partition[at + 1], partition[at] + 1)
        ]
    return found


def count_contents(partition):
    """Return a dict from the contents of all fillings to the numbers of fillings that have them."""
    if not partition:
        return {(): 1}
    found = {}
    for smaller in smaller_partitions(partition):
        last = sum(partition) - sum(smaller)
        for content, many in count_contents(smaller).items():
            key = content + (last,)
            found[key] = found.get(key, 0) + many
    return found


def count_exchanges(numbers):
    """Return how many pairs of the numbers are in ascending order."""
    return sum([
        1
        for last in range(len(numbers))
        for first in range(last)
        if numbers[first] < numbers[last]
    ])


def straighten(partition, content):
    """Return the partition to which fillings of this content contribute, and the sign; None if they are ignored."""
    steps = range(len(partition) - 1, -1, -1)
    numbers = [item + many + step for item, many, step in zip(partition, content, steps)]
    if len(set(numbers)) < len(numbers):
        return None
    sign = 1 if count_exchanges(numbers) % 2 == 0 else -1
    falling = sorted(numbers, reverse=True)
    return tuple([number - step for number, step in zip(falling, steps)]), sign


def multiplicities(a, b):
    """Return the pairs of a partition and its multiplicity in the product, in descending order."""
    check_nonnegative(a)
    check_nonnegative(b)
    compare_sizes((a, b))
    if len(a) > MAX_ENUMERATED_SIZE:
        raise LimitExceeded(MAX_ENUMERATED_SIZE)
    if b[0] > MAX_FILLED:
        raise LimitExceeded(MAX_FILLED)
    totals = {}
    for content, many in count_contents(b).items():
        result = straighten(a, content)
        if result is not None:
            partition, sign = result
            totals[partition] = totals.get(partition, 0) + sign * many
    return tuple([
        (partition, totals[partition])
        for partition in sorted(list(totals), reverse=True)
        if totals[partition] != 0
    ])
