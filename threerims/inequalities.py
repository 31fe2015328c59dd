"""Inequalities of tilings: what they say of three borders, and how a decision is checked."""

from threerims.arrays import borders, check_array, is_array, is_concave, measure_slack
from threerims.concave import solutions
from threerims.errors import InvalidAnswer, LimitExceeded
from threerims.partitions import check_equal_sizes, is_integer
from threerims.tilings import MAX_TILING_SIZE, all_tilings, border_sets, check_tiling, is_tiling

ANSWERS = ("sums", "array", "tiling")


def sum_at(partition, positions):
    """Return the sum of the entries at the positions, which are numbered from 1."""
    return sum([partition[position - 1] for position in positions])


def measure_gap(a, b, c, sets):
    """Return the gap of a tiling with these border sets."""
    first, second, third = sets
    return sum_at(a, first) + sum_at(b, second) - sum_at(c, third)


def gap(a, b, c, tiling):
    """Return the gap of the tiling's inequality, which is negative if the inequality is violated."""
    check_equal_sizes((a, b, c))
    return measure_gap(a, b, c, border_sets(len(a), tiling))


def slack_certificate(array, tiling):
    """Return the pairs (rhombus, slack) for the rhombuses of the tiling."""
    check_array(array)
    check_tiling(len(array) - 1, tiling)
    return tuple([(rhombus, measure_slack(array, rhombus)) for rhombus in tiling[0]])


def violated(a, b, c):
    """Return the list of all tilings whose inequality a, b and c violate."""
    check_equal_sizes((a, b, c))
    if len(a) > MAX_TILING_SIZE:
        raise LimitExceeded(MAX_TILING_SIZE)
    return [tiling for tiling, sets in all_tilings(len(a)) if measure_gap(a, b, c, sets) < 0]


def sum_difference(a, b, c):
    """Return by how much the sums of a and b together exceed the sum of c."""
    return sum(a) + sum(b) - sum(c)


def decide(a, b, c):
    """Return what decides whether a, b and c have a solution: a difference of the sums, a solution or a tiling."""
    found = solutions(a, b, c)
    difference = sum_difference(a, b, c)
    if difference != 0:
        return "sums", difference
    if found:
        return "array", found[0]
    return "tiling", violated(a, b, c)[0]


def check_sums_answer(a, b, c, value):
    """Raise InvalidAnswer if the value is not the difference of sums that do not agree."""
    if not is_integer(value) or value == 0 or value != sum_difference(a, b, c):
        raise InvalidAnswer("sums")


def check_array_answer(a, b, c, value):
    """Raise InvalidAnswer if the value is not a solution."""
    if not is_array(value) or not is_concave(value) or borders(value) != (a, b, c):
        raise InvalidAnswer("array")


def check_tiling_answer(a, b, c, value):
    """Raise InvalidAnswer if the value is not a tiling whose inequality is violated."""
    if not is_tiling(len(a), value):
        raise InvalidAnswer("tiling")
    if gap(a, b, c, value) >= 0:
        raise InvalidAnswer("inequality")


def check_form(answer, kinds):
    """Raise InvalidAnswer if the answer is not a pair that begins with one of the kinds."""
    if not isinstance(answer, tuple) or len(answer) != 2:
        raise InvalidAnswer("form")
    if not isinstance(answer[0], str) or answer[0] not in kinds:
        raise InvalidAnswer("form")


def check_decision(a, b, c, answer):
    """Return the first item of the answer if the answer is correct, and raise InvalidAnswer otherwise."""
    check_equal_sizes((a, b, c))
    check_form(answer, ANSWERS)
    kind, value = answer
    if kind == "sums":
        check_sums_answer(a, b, c, value)
    elif kind == "array":
        check_array_answer(a, b, c, value)
    else:
        check_tiling_answer(a, b, c, value)
    return kind
