"""Turning a pair of concave arrays that share one border into a pair that shares another one.

The integers x of the document are the values of a dict; its keys are the weights (p, q, r, s).
"""

from threerims.arrays import borders, is_concave
from threerims.errors import BorderMismatch, InvalidArray
from threerims.partitions import compare_sizes


def read_size(first, second):
    """Return the size of two concave arrays of one size, and raise the errors of all other values."""
    for array in (first, second):
        if not is_concave(array):
            raise InvalidArray(None)
    # The number of rows is not the size.
    compare_sizes((first[1:], second[1:]))
    return len(first) - 1


def vertices(size):
    """Return all vertices, row by row."""
    return [(row, place) for row in range(size + 1) for place in range(row + 1)]


def array_from(size, entry):
    """Return the array with the entries that a function of row and place returns."""
    return tuple([tuple([entry(row, place) for place in range(row + 1)]) for row in range(size + 1)])


def fill_inside(x, size):
    """Add the integers whose weights have neither q = 0 nor s = 0 to the given ones."""
    for inner in range(2, size + 1):
        for q in range(1, inner):
            s = inner - q
            for p in range(size - inner + 1):
                r = size - inner - p
                one = x[p + 1, q, r, s - 1] + x[p, q - 1, r + 1, s]
                two = x[p + 1, q - 1, r, s] + x[p, q, r + 1, s - 1]
                x[p, q, r, s] = max(one, two) - x[p + 1, q - 1, r + 1, s - 1]


def cross_pair(first, second):
    """Return the crossed pair of a stacked pair."""
    size = read_size(first, second)
    border = borders(second)[0]
    if borders(first)[2] != border:
        raise BorderMismatch(border)
    x = {}
    for row, place in vertices(size):
        x[size - row, row - place, place, 0] = first[row][place]
        x[size - row, 0, row - place, place] = second[row][place]
    fill_inside(x, size)
    corner = x[0, size, 0, 0]
    return (
        array_from(size, lambda row, place: x[0, size - row, row - place, place] - corner),
        array_from(size, lambda row, place: x[size - row, row - place, 0, place]),
    )


def stack_pair(first, second):
    """Return the stacked pair of a crossed pair."""
    size = read_size(first, second)
    border = borders(second)[1]
    if borders(first)[2] != border:
        raise BorderMismatch(border)
    # With p and q exchanged, and r and s, turning back is the same computation: so the keys here are (q, p, s, r).
    x = {}
    for row, place in vertices(size):
        x[size - row, 0, place, row - place] = first[row][place] + second[size][0]
        x[row - place, size - row, place, 0] = second[row][place]
    fill_inside(x, size)
    return (
        array_from(size, lambda row, place: x[row - place, size - row, 0, place]),
        array_from(size, lambda row, place: x[0, size - row, place, row - place]),
    )
