"""Tables with one wrong row, which differences find and mend."""

from wheelsky.errors import Broken, Mismatch
from wheelsky.forms import is_tuple_of, is_whole, is_whole_within, require
from wheelsky.tables import degree_of, differences, is_degree, is_table

SPARE_ROWS = 3


def find_fault(values, *, degree):
    """Return ("sound",), ("fault", row, right) or ("broken",)."""
    _require_checkable(values, degree)
    if _is_sound(values, degree):
        return ("sound",)
    for row in range(len(values)):
        right = _only_fit(values, row, degree)
        if _is_sound(_replaced(values, row, right), degree):
            return ("fault", row, right)
    return ("broken",)


def is_fault(values, answer, *, degree):
    """Judge whether the answer (row, right) is a fault of the table."""
    _require_checkable(values, degree)
    if not is_tuple_of(answer, 2):
        return False
    row, right = answer
    if not is_whole_within(row, 0, len(values) - 1) or not is_whole(right):
        return False
    return not _is_sound(values, degree) and _is_sound(_replaced(values, row, right), degree)


def mended(values, *, degree):
    """Return a copy of the table in which the wrong row, if there is one, is right."""
    answer = find_fault(values, degree=degree)
    if answer[0] == "broken":
        raise Broken()
    if answer[0] == "sound":
        return list(values)
    return _replaced(values, answer[1], answer[2])


def _require_checkable(values, degree):
    require(is_table(values), "values")
    require(is_degree(degree), "degree")
    if len(values) < degree + SPARE_ROWS:
        raise Mismatch()


def _is_sound(values, degree):
    return degree_of(values) <= degree


def _replaced(values, row, right):
    return values[:row] + [right] + values[row + 1:]


def _only_fit(values, row, degree):
    """Return the one integer, if there is one, that may make the table sound in this row.

    If only a number that is no integer would fit, the integer returned does not.
    """
    rests = differences(_replaced(values, row, 0))[degree + 1]
    shares = differences(_replaced([0] * len(values), row, 1))[degree + 1]
    # Each difference is its rest and its share of the row; all of them must become 0.
    rest, share = [pair for pair in zip(rests, shares) if pair[1] != 0][0]
    return -rest // share
