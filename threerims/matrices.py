"""Square matrices of integers: their products, determinants and minors, and the primes."""

from threerims.arrays import check_size, is_integer_tuple
from threerims.errors import InvalidIndex, InvalidMatrix, InvalidPrime, SizeMismatch
from threerims.partitions import MAX_SIZE, is_integer

MAX_ENTRY = 10 ** 60
MAX_PRIME = 97


def is_line(value, length):
    """Return whether the value is a line of this many entries."""
    return is_integer_tuple(value, length) and all([abs(item) <= MAX_ENTRY for item in value])


def is_matrix(value):
    """Return whether the value is a matrix."""
    if not isinstance(value, tuple) or not 1 <= len(value) <= MAX_SIZE:
        return False
    return all([is_line(line, len(value)) for line in value])


def is_prime(value):
    """Return whether the value is a prime number from 2 to MAX_PRIME."""
    if not is_integer(value) or not 2 <= value <= MAX_PRIME:
        return False
    return all([value % divisor != 0 for divisor in range(2, value)])


def check_matrix(value):
    """Return None if the value is a matrix, and raise InvalidMatrix otherwise."""
    if not is_matrix(value):
        raise InvalidMatrix(value)


def check_prime(value):
    """Return None if the value is a prime that is allowed, and raise InvalidPrime otherwise."""
    if not is_prime(value):
        raise InvalidPrime(value)


def identity(size):
    """Return the identity of this size."""
    check_size(size)
    return tuple([tuple([1 if line == column else 0 for column in range(size)]) for line in range(size)])


def product(left, right):
    """Return the product of two matrices of one size."""
    check_matrix(left)
    check_matrix(right)
    if len(left) != len(right):
        raise SizeMismatch((len(left), len(right)))
    return multiply(left, right)


def multiply(left, right):
    """Return the product of two square tuples of lines, whose entries may be of any size."""
    size = len(left)
    return tuple([
        tuple([sum([line[at] * right[at][column] for at in range(size)]) for column in range(size)])
        for line in left
    ])


def swap_in_pivot(lines, step):
    """Bring a line to this step whose entry in the column of the step is not 0.

    Return the sign of the exchange, or 0 if there is no such line.
    """
    for at in range(step, len(lines)):
        if lines[at][step] != 0:
            lines[step], lines[at] = lines[at], lines[step]
            return 1 if at == step else -1
    return 0


def eliminate(lines, step, divisor):
    """Replace the entries below and to the right of the pivot by minors of the next size."""
    pivot = lines[step][step]
    for line in range(step + 1, len(lines)):
        for column in range(step + 1, len(lines)):
            crossed = lines[line][column] * pivot - lines[line][step] * lines[step][column]
            # The division leaves no rest: divisor is the pivot of the step before.
            lines[line][column] = crossed // divisor


def compute_determinant(square):
    """Return the determinant of a square tuple of lines, whose entries may be of any size."""
    lines = [list(line) for line in square]
    sign = 1
    divisor = 1
    for step in range(len(lines) - 1):
        sign = sign * swap_in_pivot(lines, step)
        if sign == 0:
            return 0
        eliminate(lines, step, divisor)
        divisor = lines[step][step]
    return sign * lines[-1][-1]


def determinant(matrix):
    """Return the determinant of the matrix."""
    check_matrix(matrix)
    return compute_determinant(matrix)


def check_indices(value, size):
    """Return None if the value is a nonempty tuple of ascending indices, and raise InvalidIndex otherwise."""
    if not isinstance(value, tuple) or not value:
        raise InvalidIndex(value)
    last = -1
    for item in value:
        if not is_integer(item) or not last < item < size:
            raise InvalidIndex(value)
        last = item


def minor(matrix, lines, columns):
    """Return the determinant of the entries in these lines and columns."""
    check_matrix(matrix)
    check_indices(lines, len(matrix))
    check_indices(columns, len(matrix))
    if len(lines) != len(columns):
        raise SizeMismatch((len(lines), len(columns)))
    return compute_determinant([[matrix[line][column] for column in columns] for line in lines])
