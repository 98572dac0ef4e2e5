"""Tables that are made, continued and read by differences."""

from math import lcm

from wheelsky.cycles import Cycle
from wheelsky.errors import Mismatch
from wheelsky.forms import is_list_within, is_whole, is_whole_within, require
from wheelsky.ratios import ONE, ZERO, compare, floor_of, fraction, greater, is_fraction, minus, over, plus, times

MOST_ROWS = 60
MOST_DEGREE = 8


def differences(values):
    """Return the lists of the 0-th, 1-st, 2-nd, ... differences, down to one item."""
    require(is_table(values), "values")
    return _differences(values)


def heads_of(values, *, degree):
    """Return the first degree + 1 heads of the table."""
    require(is_table(values), "values")
    require(is_degree(degree), "degree")
    _refuse_short(values, degree)
    return _heads(values)[:degree + 1]


def table_of(heads, *, count):
    """Return the first `count` rows of the table that is made from the heads."""
    require(is_list_within(heads, 1, MOST_DEGREE + 1) and all([is_whole(head) for head in heads]), "heads")
    require(_is_count(count), "count")
    return _rows_from(heads, count)


def degree_of(values):
    """Return the least degree d such that all (d + 1)-th differences are 0."""
    require(is_table(values), "values")
    return len([row for row in _differences(values)[1:] if any(row)])


def continued(values, *, degree, count, back=False):
    """Return the rows that follow the table, or those that precede it, in the order of the table."""
    require(is_table(values), "values")
    require(is_degree(degree), "degree")
    require(_is_count(count), "count")
    require(isinstance(back, bool), "back")
    _refuse_short(values, degree)
    if back:
        return _followers(values[degree::-1], count)[::-1]
    return _followers(values[-degree - 1:], count)


def reading(values, at, *, degree):
    """Return the value of the table at a fraction between its rows."""
    require(is_table(values), "values")
    require(is_fraction(at), "at")
    require(is_degree(degree), "degree")
    _refuse_short(values, degree)
    if at[0] < 0 or compare(at, fraction(len(values) - 1)) > 0:
        raise Mismatch()
    first = min(floor_of(at), len(values) - 1 - degree)
    return _newton(_heads(values[first:first + degree + 1]), minus(at, fraction(first)))


def straight_bound(values, *, degree):
    """Return the most by which a straight reading is off, if the degree is at most this one."""
    require(is_table(values), "values")
    require(is_degree(degree), "degree")
    _refuse_short(values, degree)
    if len(values) < 2 or degree_of(values) > degree:
        raise Mismatch()
    rows = _differences(values + _followers(values[-degree - 1:], degree))
    bound = ZERO
    for index in range(len(values) - 1):
        off = ZERO
        for order in range(2, degree + 1):
            off = plus(off, fraction(abs(rows[order][index]), 4 * order))
        bound = greater(bound, off)
    return bound


def cycle_table(cycle, *, day, count):
    """Return (unit, values): the turns of the cycle at so many days, counted in parts of a turn."""
    require(isinstance(cycle, Cycle), "cycle")
    require(is_whole(day), "day")
    require(is_whole_within(count, 1, MOST_ROWS), "count")
    unit = lcm(cycle.rate[1], cycle.start[1])
    turns = [cycle.turns(fraction(day + passed)) for passed in range(count)]
    return (unit, [times(fraction(unit), turned)[0] for turned in turns])


def is_table(value):
    """Tell whether the value is a table: a list of 1 to 60 integers."""
    return is_list_within(value, 1, MOST_ROWS) and all([is_whole(row) for row in value])


def is_degree(value):
    """Tell whether the value is an integer from 0 to 8."""
    return is_whole_within(value, 0, MOST_DEGREE)


def _is_count(value):
    return is_whole_within(value, 0, MOST_ROWS)


def _refuse_short(values, degree):
    if len(values) < degree + 1:
        raise Mismatch()


def _differences(values):
    rows = [list(values)]
    while len(rows[-1]) > 1:
        rows.append([after - row for row, after in zip(rows[-1], rows[-1][1:])])
    return rows


def _heads(values):
    return [row[0] for row in _differences(values)]


def _moved_on(heads):
    """Return the heads of the table without its first row."""
    return [head + change for head, change in zip(heads, heads[1:] + [0])]


def _rows_from(heads, count):
    """Return the first `count` rows of the table that is made from the heads."""
    rows = []
    row_heads = heads
    for _ in range(count):
        rows.append(row_heads[0])
        row_heads = _moved_on(row_heads)
    return rows


def _followers(values, count):
    """Return the rows that follow the values, with a degree of their number less 1."""
    return _rows_from(_heads(values), len(values) + count)[len(values):]


def _newton(heads, ahead):
    """Return the value, so far ahead of the first row, of the polynomial with these heads."""
    total = ZERO
    weight = ONE
    for order, head in enumerate(heads):
        total = plus(total, times(weight, fraction(head)))
        weight = times(weight, over(minus(ahead, fraction(order)), fraction(order + 1)))
    return total
