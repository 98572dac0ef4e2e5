"""Putting fractions and what belongs to them in order."""

from wheelsky.ratios import compare


def in_order(rows):
    """Return the rows, tuples that begin with a fraction, in ascending order of it."""
    if len(rows) < 2:
        return list(rows)
    middle = len(rows) // 2
    return _merged(in_order(rows[:middle]), in_order(rows[middle:]))


def _merged(left, right):
    rows = []
    taken = 0
    for row in left:
        while taken < len(right) and compare(right[taken][0], row[0]) < 0:
            rows.append(right[taken])
            taken += 1
        rows.append(row)
    return rows + right[taken:]
