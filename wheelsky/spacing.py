"""Moments that follow one another evenly: origin + k * interval for all integers k."""

from wheelsky.errors import TooMany
from wheelsky.ratios import floor_of, fraction, minus, over, part_of, plus, times

MOST_MOMENTS = 400


def first_from(origin, interval, moment):
    """Return the first of the moments origin + k * interval that is not before `moment`."""
    missing = part_of(over(minus(origin, moment), interval))
    return plus(moment, times(missing, interval))


def count_within(origin, interval, span):
    """Return how many of the moments origin + k * interval are in the span."""
    return _count_from(first_from(origin, interval, span.first), interval, span.last)


def all_within(origin, interval, span):
    """Return all moments origin + k * interval of the span in ascending order, at most 400."""
    first = first_from(origin, interval, span.first)
    many = _count_from(first, interval, span.last)
    if many > MOST_MOMENTS:
        raise TooMany(MOST_MOMENTS)
    return [plus(first, times(fraction(number), interval)) for number in range(many)]


def _count_from(first, interval, last):
    return floor_of(over(minus(last, first), interval)) + 1
