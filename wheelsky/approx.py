"""Continued fractions, and the nearest fractions with small denominators."""

from wheelsky.forms import is_list_within, is_tuple_of, is_whole, is_whole_within, require
from wheelsky.ratios import compare, is_fraction, minus

MOST_TERMS = 400
MOST_DENOMINATOR = 1000000


def quotients(value):
    """Return the terms of the continued fraction of the value."""
    require(is_fraction(value), "value")
    terms = []
    numerator, denominator = value
    while denominator != 0:
        term, rest = divmod(numerator, denominator)
        terms.append(term)
        numerator, denominator = denominator, rest
    return terms


def value_of(terms):
    """Return the value of 1 to 400 quotients."""
    require(_are_terms(terms), "terms")
    # The fractions stay in lowest terms: any divisor of both would divide 1 and 0 too.
    numerator, denominator = 1, 0
    for term in reversed(terms):
        numerator, denominator = term * numerator + denominator, numerator
    return (numerator, denominator)


def convergents(value):
    """Return the values of the first quotients: of the first one, of two, and so on."""
    require(is_fraction(value), "value")
    found = []
    before, last = (0, 1), (1, 0)
    for term in quotients(value):
        before, last = last, _advanced(before, last, term)
        found.append(last)
    return found


def nearest(value, *, most):
    """Return the nearest fraction to the value with a denominator of at most `most`."""
    low, high = nearest_paper(value, most=most)
    side = compare(minus(value, low), minus(high, value))
    if side == 0:
        return high if high[1] < low[1] else low
    return low if side < 0 else high


def nearest_paper(value, *, most):
    """Return the value twice, or the nearest fractions below and above it."""
    require(is_fraction(value), "value")
    require(_is_most(most), "most")
    if value[1] <= most:
        return (value, value)
    before, last = (0, 1), (1, 0)
    for term in quotients(value):
        after = _advanced(before, last, term)
        if after[1] > most:
            break
        before, last = last, after
    # The last convergent that fits is on one side of the value; the other side is reached
    # by as many steps from the one before it as fit.
    other = _advanced(before, last, (most - before[1]) // last[1])
    return (last, other) if compare(last, other) < 0 else (other, last)


def is_nearest_paper(value, paper, *, most):
    """Judge whether the paper is the nearest certificate of the value."""
    require(is_fraction(value), "value")
    require(_is_most(most), "most")
    if not is_tuple_of(paper, 2) or not all([is_fraction(side) for side in paper]):
        return False
    low, high = paper
    if low[1] > most or high[1] > most:
        return False
    if low == high:
        return low == value
    if compare(low, value) >= 0 or compare(value, high) >= 0:
        return False
    return high[0] * low[1] - low[0] * high[1] == 1 and low[1] + high[1] > most


def _are_terms(value):
    if not is_list_within(value, 1, MOST_TERMS) or not is_whole(value[0]):
        return False
    return all([is_whole(term) and term >= 1 for term in value[1:]])


def _is_most(value):
    return is_whole_within(value, 1, MOST_DENOMINATOR)


def _advanced(before, last, steps):
    """Return the fraction that is so many steps of `last` ahead of `before`."""
    return (before[0] + steps * last[0], before[1] + steps * last[1])
