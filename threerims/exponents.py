"""Powers of a prime in the minors of a matrix: orders, exponents and certificates.

The minors themselves are not visited. Steps of elimination whose factors the prime does
not divide leave the exponents as they are, and in a diagonal the exponents can be read.
"""

from math import gcd

from threerims.arrays import is_integer_tuple
from threerims.errors import InvalidCertificate, InvalidIndex, SingularMatrix
from threerims.matrices import check_matrix, check_prime, compute_determinant, identity, multiply
from threerims.partitions import is_integer


def power(number, exponent):
    """Return the number to the power of an exponent that is at least 0."""
    found = 1
    while exponent > 0:
        if exponent % 2 == 1:
            found = found * number
        exponent = exponent // 2
        if exponent > 0:
            number = number * number
    return found


def count_divisions(value, prime):
    """Return how often the prime divides an integer that is not 0."""
    found = 0
    while value % prime == 0:
        value = value // prime
        found = found + 1
    return found


def order(value, prime):
    """Return the order of an integer that is not 0."""
    check_prime(prime)
    if not is_integer(value) or value == 0:
        raise InvalidIndex(value)
    return count_divisions(value, prime)


def determinant_order(matrix, prime):
    """Return the order of the determinant, after the checks that all functions of a matrix and a prime share."""
    check_matrix(matrix)
    check_prime(prime)
    return regular_order(matrix, prime)


def regular_order(matrix, prime):
    """Return the order of the determinant, and raise SingularMatrix if the determinant is 0."""
    found = compute_determinant(matrix)
    if found == 0:
        raise SingularMatrix()
    return count_divisions(found, prime)


def find_unit(lines, prime):
    """Return the line and the column of an entry that the prime does not divide, or None."""
    for at, line in enumerate(lines):
        for column, item in enumerate(line):
            if item % prime != 0:
                return at, column
    return None


def without_pivot(lines, place, modulus):
    """Return the lines after a step of elimination, without the line and the column of the pivot."""
    at, column = place
    chosen = lines[at]
    pivot = chosen[column]
    others = [each for each in range(len(chosen)) if each != column]
    return [
        [(pivot * line[each] - line[column] * chosen[each]) % modulus for each in others]
        for number, line in enumerate(lines)
        if number != at
    ]


def common_divisor(lines, modulus):
    """Return the greatest common divisor of the modulus and all entries."""
    found = modulus
    for line in lines:
        for item in line:
            found = gcd(found, item)
    return found


def find_exponents(lines, prime, modulus):
    """Return the exponents of the lines, in descending order.

    The modulus is a power of the prime, and greater than the power of each exponent: then
    only the rests of the entries matter.
    """
    found = []
    divided = 0
    while lines:
        place = find_unit(lines, prime)
        if place is None:
            divisor = common_divisor(lines, modulus)
            lines = [[item // divisor for item in line] for line in lines]
            modulus = modulus // divisor
            divided = divided + count_divisions(divisor, prime)
        else:
            found.append(divided)
            lines = without_pivot(lines, place, modulus)
    return tuple(found[::-1])


def exponents(matrix, prime):
    """Return the exponents of a regular matrix."""
    depth = determinant_order(matrix, prime)
    return find_exponents(matrix, prime, power(prime, depth + 1))


def least_orders(matrix, prime):
    """Return the least orders of the nonzero minors of the sizes 1 to n."""
    rising = exponents(matrix, prime)[::-1]
    return tuple([sum(rising[:size]) for size in range(1, len(rising) + 1)])


def transpose(lines):
    """Return the columns of the lines."""
    return [[line[column] for line in lines] for column in range(len(lines[0]))]


def swapped(items, first, second):
    """Return the list of the items with two of them exchanged."""
    found = list(items)
    found[first], found[second] = items[second], items[first]
    return found


def find_least(lines, step, size, prime, least):
    """Return (power, line, column) for an entry of the least order from this step on.

    least is a power of the prime that divides all these entries.
    """
    while True:
        for at in range(step, size):
            for column in range(step, size):
                if lines[at][column] % (least * prime) != 0:
                    return least, at, column
        least = least * prime


def clear_below(lines, step, size, least, modulus):
    """Return the lines with zeros below the pivot at this step. least is the prime's power in the pivot."""
    chosen = lines[step]
    unit = chosen[step] // least
    found = list(lines)
    for at in range(step + 1, size):
        factor = lines[at][step] // least
        found[at] = [(unit * item - factor * other) % modulus for item, other in zip(lines[at], chosen)]
    return found


def certificate(matrix, prime):
    """Return a certificate of a regular matrix."""
    modulus = power(prime, determinant_order(matrix, prime) + 1)
    size = len(matrix)
    # The identities beside and below the matrix record the steps with lines and with columns.
    beside = identity(size)
    lines = [[item % modulus for item in matrix[at]] + list(beside[at]) for at in range(size)]
    lines.extend([list(line) + [0] * size for line in beside])
    least = 1
    for step in range(size):
        least, at, column = find_least(lines, step, size, prime, least)
        lines = [swapped(line, step, column) for line in swapped(lines, step, at)]
        lines = clear_below(lines, step, size, least, modulus)
        lines = transpose(clear_below(transpose(lines), step, size, least, modulus))
    # The steps go from the least order to the greatest; a certificate has the greatest first.
    left = tuple([tuple(line[size:]) for line in lines[:size][::-1]])
    right = tuple([tuple(line[:size][::-1]) for line in lines[size:]])
    return left, right


def is_square(value, size):
    """Return whether the value is a tuple of this many lines of this many integers."""
    if not isinstance(value, tuple) or len(value) != size:
        return False
    return all([is_integer_tuple(line, size) for line in value])


def diagonal_orders(square, prime, modulus):
    """Return the orders of the diagonal entries, or None if the square is not as a certificate requires."""
    found = []
    for at, line in enumerate(square):
        for column, item in enumerate(line):
            if (item % modulus != 0) != (at == column):
                return None
        found.append(count_divisions(line[at], prime))
    if found != sorted(found, reverse=True):
        return None
    return tuple(found)


def check_certificate(matrix, prime, certificate):
    """Return the exponents if the value is a certificate, and raise InvalidCertificate otherwise."""
    modulus = power(prime, determinant_order(matrix, prime) + 1)
    if not isinstance(certificate, tuple) or len(certificate) != 2:
        raise InvalidCertificate("form")
    left, right = certificate
    if not is_square(left, len(matrix)) or not is_square(right, len(matrix)):
        raise InvalidCertificate("form")
    if not all([0 <= item < modulus for line in left + right for item in line]):
        raise InvalidCertificate("range")
    if compute_determinant(left) % prime == 0 or compute_determinant(right) % prime == 0:
        raise InvalidCertificate("unit")
    found = diagonal_orders(multiply(multiply(left, matrix), right), prime, modulus)
    if found is None:
        raise InvalidCertificate("diagonal")
    return found
