"""Concave arrays with three given borders: listed, counted and ranked.

Inside, the entries of an array are one list, in ascending order of the vertices. The
number of a vertex is its index in this order. An inner vertex is one off the borders.
"""

from threerims.arrays import borders, is_concave, is_vertex, rhombus_vertices, rhombuses
from threerims.errors import InvalidArray, InvalidRank, InvalidVertex, LimitExceeded
from threerims.partitions import check_equal_sizes, is_integer

MAX_ENUMERATED_SIZE = 4
MAX_SPREAD = 20
MAX_THIRD_SIZE = 3


def check_limits(partitions, greatest_size):
    """Raise LimitExceeded if the partitions, all of one size, are too large or too spread."""
    if len(partitions[0]) > greatest_size:
        raise LimitExceeded(greatest_size)
    for partition in partitions:
        if partition[0] - partition[-1] > MAX_SPREAD:
            raise LimitExceeded(MAX_SPREAD)


def check_borders(a, b, c):
    """Raise the errors that all functions of three borders have in common."""
    check_equal_sizes((a, b, c))
    check_limits((a, b, c), MAX_ENUMERATED_SIZE)


def vertex_number(vertex):
    """Return the number of the vertex."""
    row, place = vertex
    return row * (row + 1) // 2 + place


def rows_of(entries, size):
    """Return the array with these entries."""
    starts = [vertex_number((row, 0)) for row in range(size + 2)]
    return tuple([tuple(entries[starts[row]:starts[row + 1]]) for row in range(size + 1)])


def running_sums(start, steps):
    """Return the start and the sums that the steps lead to, one after the other."""
    found = [start]
    for step in steps:
        found.append(found[-1] + step)
    return found


def border_entries(a, b, c):
    """Return the entries of an array with these borders, and 0 at the inner vertices."""
    size = len(a)
    left = running_sums(0, a)
    right = running_sums(0, c)
    entries = [0]
    for row in range(1, size):
        entries.extend([left[row]] + [0] * (row - 1) + [right[row]])
    entries.extend(running_sums(left[size], b))
    return entries


def inner_vertices(size):
    """Return the inner vertices, in ascending order."""
    return [(row, place) for row in range(2, size) for place in range(1, row)]


def limit_of(vertex, own, other):
    """Return numbers (x, y, z): the rhombus limits the entry at the vertex by entry x + entry y - entry z.

    own is the pair, ends or tips, that holds the vertex, and other is the other pair.
    """
    partner = own[1] if own[0] == vertex else own[0]
    return vertex_number(other[0]), vertex_number(other[1]), vertex_number(partner)


def entry_limits(size):
    """Return (number, lower limits, upper limits) for every inner vertex, for a size that is at least 3.

    A rhombus limits the last of its inner vertices: the other entries are known when that one is chosen.
    """
    limits = {vertex: ([], []) for vertex in inner_vertices(size)}
    for rhombus in rhombuses(size):
        ends, tips = rhombus_vertices(rhombus)
        vertex = max([each for each in ends + tips if each in limits])
        lower, upper = limits[vertex]
        if vertex in ends:
            lower.append(limit_of(vertex, ends, tips))
        else:
            upper.append(limit_of(vertex, tips, ends))
    return [(vertex_number(vertex), lower, upper) for vertex, (lower, upper) in limits.items()]


def fill_entry(entries, number, lower, upper):
    """Return the entries with each possible integer at this number, in ascending order."""
    least = max([entries[x] + entries[y] - entries[z] for x, y, z in lower])
    greatest = min([entries[x] + entries[y] - entries[z] for x, y, z in upper])
    return [entries[:number] + [value] + entries[number + 1:] for value in range(least, greatest + 1)]


def find_solutions(a, b, c):
    """Return all solutions for partitions of one size, in ascending order."""
    if sum(c) != sum(a) + sum(b):
        return []
    size = len(a)
    found = [border_entries(a, b, c)]
    if size < 3:
        # Nothing is chosen without an inner vertex, so no limit would be applied.
        array = rows_of(found[0], size)
        return [array] if is_concave(array) else []
    for number, lower, upper in entry_limits(size):
        longer = []
        for entries in found:
            longer.extend(fill_entry(entries, number, lower, upper))
        found = longer
    return [rows_of(entries, size) for entries in found]


def solutions(a, b, c):
    """Return the list of all solutions, in ascending order."""
    check_borders(a, b, c)
    return find_solutions(a, b, c)


def count_solutions(a, b, c):
    """Return the number of solutions."""
    return len(solutions(a, b, c))


def solution_by_rank(a, b, c, rank):
    """Return the solution with this rank."""
    found = solutions(a, b, c)
    if not is_integer(rank) or not 0 <= rank < len(found):
        raise InvalidRank(rank)
    return found[rank]


def rank_of(array):
    """Return the rank of a concave array among the solutions of its borders."""
    if not is_concave(array):
        raise InvalidArray(None)
    first, second, third = borders(array)
    check_limits((first, second, third), MAX_ENUMERATED_SIZE)
    return find_solutions(first, second, third).index(array)


def entry_range(a, b, c, vertex):
    """Return the least and the greatest entry at the vertex over all solutions, or None without a solution."""
    check_borders(a, b, c)
    if not is_vertex(vertex, len(a)):
        raise InvalidVertex(vertex)
    row, place = vertex
    entries = [array[row][place] for array in find_solutions(a, b, c)]
    if not entries:
        return None
    return min(entries), max(entries)


def partitions_between(low, high, size, total):
    """Return the partitions of this size and sum with entries from low to high, in ascending order."""
    if size == 1:
        return [(total,)] if low <= total <= high else []
    return [
        (first,) + rest
        for first in range(low, high + 1)
        for rest in partitions_between(low, first, size - 1, total - first)
    ]


def third_borders(a, b):
    """Return all partitions c for which a, b and c have a solution, in ascending order."""
    check_equal_sizes((a, b))
    check_limits((a, b), MAX_THIRD_SIZE)
    # Along the third border a concave array rises by no less than the first sum and by no more than the second.
    candidates = partitions_between(a[-1] + b[-1], a[0] + b[0], len(a), sum(a) + sum(b))
    return tuple([c for c in candidates if find_solutions(a, b, c)])
