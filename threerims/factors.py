"""Matrices whose exponents are three given partitions, made from tableaux."""

from threerims.errors import InvalidAnswer, InvalidTableau
from threerims.exponents import power
from threerims.inequalities import check_form, check_sums_answer, check_tiling_answer, decide
from threerims.matrices import check_prime, identity, multiply
from threerims.partitions import check_nonnegative, compare_sizes
from threerims.tableaux import check_over_base, find_content, find_outer_shape, fits_over, is_tableau, tableau_of

ANSWERS = ("sums", "matrices", "tiling")


def diagonal(items):
    """Return the square with these items on the diagonal and 0 elsewhere, as a list of lists."""
    size = len(items)
    return [[items[line] if line == column else 0 for column in range(size)] for line in range(size)]


def lead(base, prime):
    """Return the lead matrix of the base."""
    check_nonnegative(base)
    check_prime(prime)
    return tuple([tuple(line) for line in diagonal([power(prime, item) for item in base])])


def make_factor(at, tableau, prime):
    """Return the factor of the entry at this index, counted from 0."""
    powers = [power(prime, level[at]) for level in tableau[at:]]
    lines = diagonal([1] * at + powers)
    for line in range(at, len(tableau) - 1):
        lines[line][line + 1] = 1
    return tuple([tuple(line) for line in lines])


def factors(base, tableau, prime):
    """Return all factors of a tableau that fits the base, in their order."""
    check_nonnegative(base)
    check_over_base(base, tableau)
    if not fits_over(base, tableau):
        raise InvalidTableau(tableau)
    check_prime(prime)
    return tuple([make_factor(at, tableau, prime) for at in range(len(tableau))])


def tail(base, tableau, prime):
    """Return the tail matrix: the product of all factors."""
    made = factors(base, tableau, prime)
    found = identity(len(made))
    for factor in made:
        found = multiply(found, factor)
    return found


def check_all_nonnegative(a, b, c):
    """Raise the errors that realize and check_realization have in common."""
    for partition in (a, b, c):
        check_nonnegative(partition)
    compare_sizes((a, b, c))


def realize(a, b, c, prime):
    """Return a difference of the sums, a tableau from which matrices can be made, or a violated tiling."""
    check_all_nonnegative(a, b, c)
    kind, value = decide(a, b, c)
    check_prime(prime)
    if kind == "array":
        return "matrices", tableau_of(value)
    return kind, value


def check_tableau_answer(a, b, c, value):
    """Raise InvalidAnswer if the value is not a tableau that fits a and has the content b and the outer shape c."""
    if not is_tableau(value) or len(value) != len(a) or not fits_over(a, value):
        raise InvalidAnswer("tableau")
    if find_content(value) != b or find_outer_shape(a, value) != c:
        raise InvalidAnswer("content")


def check_realization(a, b, c, prime, answer):
    """Return the first item of the answer if the answer is correct, and raise InvalidAnswer otherwise."""
    check_all_nonnegative(a, b, c)
    check_prime(prime)
    check_form(answer, ANSWERS)
    kind, value = answer
    if kind == "sums":
        check_sums_answer(a, b, c, value)
    elif kind == "tiling":
        check_tiling_answer(a, b, c, value)
    else:
        check_tableau_answer(a, b, c, value)
    return kind
