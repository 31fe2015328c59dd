"""Triangular arrays: their borders, rhombuses, slacks and symmetries.

A vertex is written (row, place). An array of size n has the rows 0 to n.
"""

from threerims.errors import InvalidArray, InvalidRhombus, InvalidSize, InvalidVertex, SizeMismatch
from threerims.partitions import MAX_SIZE, check_factor, is_integer

# In ascending order: rhombuses() relies on it.
DIRECTIONS = ("flat", "left", "right")


def is_integer_tuple(value, length):
    """Return whether the value is a tuple of this many integers."""
    if not isinstance(value, tuple) or len(value) != length:
        return False
    return all([is_integer(item) for item in value])


def check_array(value):
    """Return None if the value is an array, and raise InvalidArray otherwise."""
    if not isinstance(value, tuple) or not 2 <= len(value) <= MAX_SIZE + 1:
        raise InvalidArray(None)
    for row, items in enumerate(value):
        if not is_integer_tuple(items, row + 1):
            raise InvalidArray(row)
        if row == 0 and items[0] != 0:
            raise InvalidArray(row)


def is_array(value):
    """Return whether the value is an array."""
    try:
        check_array(value)
    except InvalidArray:
        return False
    return True


def size_of(array):
    """Return the size of the array."""
    check_array(array)
    return len(array) - 1


def differences(numbers):
    """Return the tuple of the differences from each number to the next."""
    return tuple([numbers[at + 1] - numbers[at] for at in range(len(numbers) - 1)])


def borders(array):
    """Return the first, the second and the third border of the array."""
    check_array(array)
    first = differences([row[0] for row in array])
    second = differences(array[-1])
    third = differences([row[-1] for row in array])
    return first, second, third


def is_vertex(value, size):
    """Return whether the value is a vertex of the triangle of this size."""
    if not is_integer_tuple(value, 2):
        return False
    row, place = value
    return 0 <= place <= row <= size


def entry(array, vertex):
    """Return the entry of the array at the vertex."""
    check_array(array)
    if not is_vertex(vertex, len(array) - 1):
        raise InvalidVertex(vertex)
    row, place = vertex
    return array[row][place]


def flat_differences(array, row):
    """Return the differences of the flat edges of the row, from left to right."""
    check_array(array)
    if not is_integer(row) or not 0 <= row < len(array):
        raise InvalidVertex(row)
    return differences(array[row])


def check_size(value):
    """Return None if the value is an integer from 1 to MAX_SIZE, and raise InvalidSize otherwise."""
    if not is_integer(value) or not 1 <= value <= MAX_SIZE:
        raise InvalidSize(value)


def is_rhombus(value, size):
    """Return whether the value is a rhombus of the triangle of this size."""
    if not isinstance(value, tuple) or len(value) != 3:
        return False
    direction, row, place = value
    if not isinstance(direction, str) or not is_integer(row) or not is_integer(place):
        return False
    if direction == "flat":
        return 0 <= place <= row <= size - 2
    if direction == "left":
        return 1 <= place <= row <= size - 1
    if direction == "right":
        return 0 <= place < row <= size - 1
    return False


def rhombuses(size):
    """Return all rhombuses of the triangle of this size, in ascending order."""
    check_size(size)
    return tuple([
        (direction, row, place)
        for direction in DIRECTIONS
        for row in range(size)
        for place in range(row + 1)
        if is_rhombus((direction, row, place), size)
    ])


def rhombus_vertices(rhombus):
    """Return the pair of the ends and the pair of the tips of the rhombus."""
    if not is_rhombus(rhombus, MAX_SIZE):
        raise InvalidRhombus(rhombus)
    direction, row, place = rhombus
    if direction == "flat":
        return ((row + 1, place), (row + 1, place + 1)), ((row, place), (row + 2, place + 1))
    if direction == "left":
        return ((row, place), (row + 1, place)), ((row, place - 1), (row + 1, place + 1))
    return ((row, place), (row + 1, place + 1)), ((row, place + 1), (row + 1, place))


def measure_slack(array, rhombus):
    """Return the slack of a rhombus that is known to be one of the array's triangle."""
    ends, tips = rhombus_vertices(rhombus)
    return sum([array[row][place] for row, place in ends]) - sum([array[row][place] for row, place in tips])


def slack(array, rhombus):
    """Return the slack of the rhombus in the array."""
    check_array(array)
    if not is_rhombus(rhombus, len(array) - 1):
        raise InvalidRhombus(rhombus)
    return measure_slack(array, rhombus)


def slacks(array):
    """Return the pairs (rhombus, slack) for all rhombuses, in ascending order."""
    check_array(array)
    return tuple([(rhombus, measure_slack(array, rhombus)) for rhombus in rhombuses(len(array) - 1)])


def is_concave(array):
    """Return whether no rhombus has a negative slack in the array."""
    return all([pair[1] >= 0 for pair in slacks(array)])


def rotate(array):
    """Return the rotated array: the border that was second comes first."""
    check_array(array)
    size = len(array) - 1
    corner = array[size][0]
    return tuple([
        tuple([array[size - place][row - place] - corner for place in range(row + 1)])
        for row in range(size + 1)
    ])


def reflect(array):
    """Return the reflected array: every row is reversed."""
    check_array(array)
    return tuple([row[::-1] for row in array])


def scale_array(array, factor):
    """Return the array with every entry multiplied by the factor."""
    check_array(array)
    check_factor(factor)
    return tuple([tuple([item * factor for item in row]) for row in array])


def add_arrays(first, second):
    """Return the sum of two arrays, entry by entry."""
    check_array(first)
    check_array(second)
    if len(first) != len(second):
        raise SizeMismatch((len(first) - 1, len(second) - 1))
    return tuple([
        tuple([left + right for left, right in zip(above, below)])
        for above, below in zip(first, second)
    ])
