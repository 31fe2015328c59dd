"""Tableaux over a base, and the concave arrays that correspond to them.

In the code an entry i and a level j are counted from 0: k(i, j) of the document is
tableau[j - 1][i - 1].
"""

from threerims.arrays import borders, differences, is_concave, is_integer_tuple
from threerims.concave import running_sums
from threerims.errors import InvalidArray, InvalidPartition, InvalidTableau
from threerims.partitions import MAX_SIZE, check_descending, compare_sizes

MAX_LEVELS = 60


def is_level(value, length):
    """Return whether the value is a level of this many integers."""
    return is_integer_tuple(value, length) and all([item >= 0 for item in value])


def is_tableau(value):
    """Return whether the value is a tableau."""
    if not isinstance(value, tuple) or len(value) > MAX_LEVELS:
        return False
    return all([is_level(level, at + 1) for at, level in enumerate(value)])


def check_tableau(value):
    """Return None if the value is a tableau, and raise InvalidTableau otherwise."""
    if not is_tableau(value):
        raise InvalidTableau(value)


def check_over_base(base, tableau):
    """Raise the errors that all functions of a base and a tableau have in common."""
    if not isinstance(base, tuple) or len(base) > MAX_LEVELS:
        raise InvalidPartition(None)
    check_descending(base)
    check_tableau(tableau)
    compare_sizes((base, tableau))


def rows_of_entries(tableau):
    """Return for every entry the numbers of this entry in the levels that can have it."""
    return [[level[at] for level in tableau[at:]] for at in range(len(tableau))]


def find_content(levels):
    """Return the content of some levels of a tableau, from the first on."""
    return tuple([sum(row) for row in rows_of_entries(levels)])


def content(tableau):
    """Return the content: how often the tableau has each entry."""
    check_tableau(tableau)
    return find_content(tableau)


def outer_shape(base, tableau):
    """Return the base with the sum of each level added."""
    check_over_base(base, tableau)
    return find_outer_shape(base, tableau)


def find_outer_shape(base, tableau):
    """Return the outer shape of a base and a tableau of one size."""
    return tuple([item + sum(level) for item, level in zip(base, tableau)])


def is_steep_over(base, tableau):
    """Return whether the tableau is steep over a base of its size."""
    for at in range(1, len(tableau)):
        ends = running_sums(base[at], tableau[at])[1:]
        starts = running_sums(base[at - 1], tableau[at - 1])
        if not all([end <= start for end, start in zip(ends, starts)]):
            return False
    return True


def is_steep(base, tableau):
    """Return whether the tableau is steep over the base."""
    check_over_base(base, tableau)
    return is_steep_over(base, tableau)


def has_fair_levels(tableau):
    """Return whether the tableau is fair."""
    sums = [running_sums(0, row)[1:] for row in rows_of_entries(tableau)]
    for at in range(1, len(sums)):
        # Entry i + 1 up to level j + 1 stands beside entry i up to level j.
        if not all([later <= earlier for later, earlier in zip(sums[at], sums[at - 1])]):
            return False
    return True


def is_fair(tableau):
    """Return whether the tableau is fair."""
    check_tableau(tableau)
    return has_fair_levels(tableau)


def fits_over(base, tableau):
    """Return whether the tableau fits a base of its size."""
    return is_steep_over(base, tableau) and has_fair_levels(tableau)


def fits(base, tableau):
    """Return whether the tableau fits the base."""
    check_over_base(base, tableau)
    return fits_over(base, tableau)


def array_of(base, tableau):
    """Return the concave array of the base and a tableau that fits it."""
    check_over_base(base, tableau)
    if not 1 <= len(tableau) <= MAX_SIZE or not fits_over(base, tableau):
        raise InvalidTableau(tableau)
    # Row j begins with the sum of the first j entries of the base, and rises by the content of the first j levels.
    starts = running_sums(0, base)
    return tuple([
        tuple(running_sums(start, find_content(tableau[:row])))
        for row, start in enumerate(starts)
    ])


def tableau_of(array):
    """Return the tableau of a concave array whose second border is nonnegative."""
    if not is_concave(array) or borders(array)[1][-1] < 0:
        raise InvalidArray(None)
    rises = [differences(row) for row in array]
    return tuple([
        tuple([after - before for after, before in zip(rises[row], rises[row - 1] + (0,))])
        for row in range(1, len(array))
    ])
