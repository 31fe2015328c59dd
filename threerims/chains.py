"""Chains of partitions: the exponents on the way from a matrix to its product with another one."""

from threerims.errors import InvalidChain, InvalidPartition, InvalidTableau
from threerims.exponents import exponents, find_exponents, power, regular_order
from threerims.matrices import check_matrix, check_prime, multiply
from threerims.partitions import check_nonnegative, compare_sizes
from threerims.tableaux import MAX_LEVELS, check_tableau, fits_over


def find_conjugate(partition):
    """Return the conjugate of a nonnegative partition."""
    found = []
    for size in range(len(partition), 0, -1):
        next_entry = partition[size] if size < len(partition) else 0
        found.extend([size] * (partition[size - 1] - next_entry))
    return tuple(found)


def conjugate(partition):
    """Return the conjugate of the partition."""
    check_nonnegative(partition)
    return find_conjugate(partition)


def chain(left, right, prime):
    """Return the chain of two regular matrices of one size."""
    check_matrix(left)
    check_matrix(right)
    check_prime(prime)
    compare_sizes((left, right))
    # No exponent on the way is greater than the order of the product's determinant.
    depth = regular_order(left, prime) + regular_order(right, prime)
    modulus = power(prime, depth + 1)
    total = multiply(left, right)
    found = []
    scale = 1
    for _ in range(exponents(right, prime)[0] + 1):
        lines = [
            [scale * item for item in line] + list(other)
            for line, other in zip(left, total)
        ]
        found.append(find_exponents(lines, prime, modulus))
        scale = scale * prime
    return tuple(found)


def is_nonnegative(value):
    """Return whether the value is a nonnegative partition."""
    try:
        check_nonnegative(value)
    except InvalidPartition:
        return False
    return True


def is_climbing(value):
    """Return whether the value is a nonempty tuple of partitions of one size whose entries rise by steps of 0 or 1."""
    if not isinstance(value, tuple) or not value:
        return False
    if not all([is_nonnegative(partition) for partition in value]):
        return False
    for before, after in zip(value, value[1:]):
        if len(before) != len(after):
            return False
        if not all([0 <= new - old <= 1 for old, new in zip(before, after)]):
            return False
    return True


def raised_entries(before, after):
    """Return the entries that a step has raised, as they are after the step."""
    return [new for old, new in zip(before, after) if new > old]


def find_raises(value):
    """Return the raises if the value is a chain, and None otherwise."""
    if not is_climbing(value) or value[-1][0] > MAX_LEVELS:
        return None
    width = value[-1][0]
    levels = [[0] * (at + 1) for at in range(width)]
    for at in range(len(value) - 1):
        raised = raised_entries(value[at], value[at + 1])
        # Step t raises no entry to less than t; here at is t - 1.
        if not raised or min(raised) <= at:
            return None
        for item in raised:
            levels[item - 1][at] = levels[item - 1][at] + 1
    tableau = tuple([tuple(level) for level in levels])
    first = find_conjugate(value[0])
    base = first + (0,) * (width - len(first))
    return tableau if fits_over(base, tableau) else None


def is_chain(value):
    """Return whether the value is a chain."""
    return find_raises(value) is not None


def raises_of(chain):
    """Return the raises of the chain."""
    found = find_raises(chain)
    if found is None:
        raise InvalidChain(chain)
    return found


def count_steps(tableau):
    """Return the greatest entry of the tableau, or 0 if it has none."""
    return max([at + 1 for level in tableau for at, many in enumerate(level) if many > 0], default=0)


def raise_entries(partition, tableau, at):
    """Return the partition after the step that the tableau describes by its entries at this index."""
    left = {level: tableau[level - 1][at] for level in range(at + 1, len(tableau) + 1)}
    found = []
    for item in partition:
        # Of equal entries the first ones are raised, so that the entries stay weakly decreasing.
        if left.get(item + 1, 0) > 0:
            left[item + 1] = left[item + 1] - 1
            found.append(item + 1)
        else:
            found.append(item)
    return tuple(found)


def chain_of(base, tableau):
    """Return the chain that begins with the base and has the tableau as its raises."""
    check_nonnegative(base)
    check_tableau(tableau)
    found = [base]
    for at in range(count_steps(tableau)):
        found.append(raise_entries(found[-1], tableau, at))
    # A tableau that asks for more raises than there are entries leads to a chain with other raises, or to none.
    if find_raises(tuple(found)) != tableau:
        raise InvalidTableau(tableau)
    return tuple(found)
