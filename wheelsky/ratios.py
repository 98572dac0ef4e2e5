"""Exact fractions: tuples (numerator, denominator) in lowest terms."""

from math import gcd, lcm

from wheelsky.forms import is_whole, require

ZERO = (0, 1)
ONE = (1, 1)
MOST_VALUES = 12


def fraction(numerator, denominator=1):
    """Return numerator / denominator as a fraction."""
    require(is_whole(numerator), "numerator")
    require(is_whole(denominator) and denominator != 0, "denominator")
    divisor = gcd(numerator, denominator)
    if denominator < 0:
        divisor = -divisor
    return (numerator // divisor, denominator // divisor)


def is_fraction(value):
    """Judge whether the value is a fraction."""
    if not isinstance(value, tuple) or len(value) != 2:
        return False
    numerator, denominator = value
    if not is_whole(numerator) or not is_whole(denominator):
        return False
    return denominator >= 1 and gcd(numerator, denominator) == 1


def is_place(value):
    """Tell whether the value is a place: a fraction of 0 or more and less than 1."""
    return is_fraction(value) and 0 <= value[0] < value[1]


def plus(left, right):
    """Return the sum of two fractions."""
    require(is_fraction(left), "left")
    require(is_fraction(right), "right")
    return fraction(left[0] * right[1] + right[0] * left[1], left[1] * right[1])


def minus(left, right):
    """Return the difference of two fractions."""
    require(is_fraction(left), "left")
    require(is_fraction(right), "right")
    return fraction(left[0] * right[1] - right[0] * left[1], left[1] * right[1])


def times(left, right):
    """Return the product of two fractions."""
    require(is_fraction(left), "left")
    require(is_fraction(right), "right")
    return fraction(left[0] * right[0], left[1] * right[1])


def over(left, right):
    """Return the quotient of two fractions, of which the right one is not 0."""
    require(is_fraction(left), "left")
    require(is_fraction(right) and right[0] != 0, "right")
    return fraction(left[0] * right[1], left[1] * right[0])


def compare(left, right):
    """Return -1, 0 or 1 if left is less than, equal to or greater than right."""
    require(is_fraction(left), "left")
    require(is_fraction(right), "right")
    scaled_left = left[0] * right[1]
    scaled_right = right[0] * left[1]
    if scaled_left == scaled_right:
        return 0
    return -1 if scaled_left < scaled_right else 1


def lesser(left, right):
    """Return the lesser one of two fractions."""
    return right if compare(left, right) > 0 else left


def greater(left, right):
    """Return the greater one of two fractions."""
    return right if compare(left, right) < 0 else left


def negated(value):
    """Return the fraction with the other sign."""
    require(is_fraction(value), "value")
    return (-value[0], value[1])


def magnitude(value):
    """Return the absolute value of a fraction."""
    require(is_fraction(value), "value")
    return (abs(value[0]), value[1])


def floor_of(value):
    """Return the greatest integer that is not greater than the fraction."""
    require(is_fraction(value), "value")
    return value[0] // value[1]


def part_of(value):
    """Return the fraction minus its floor."""
    require(is_fraction(value), "value")
    return (value[0] % value[1], value[1])


def offset_of(value):
    """Return the offset: greater than -1/2, at most 1/2, and an integer away from the fraction."""
    require(is_fraction(value), "value")
    numerator, denominator = part_of(value)
    if 2 * numerator > denominator:
        numerator = numerator - denominator
    return (numerator, denominator)


def distance_of(value):
    """Return the distance of the fraction from the integers."""
    require(is_fraction(value), "value")
    return magnitude(offset_of(value))


def common_measure(values):
    """Return the common measure of 1 to 12 fractions."""
    require(_is_value_list(values), "values")
    numerator = 0
    denominator = 1
    for value in values:
        numerator = gcd(numerator, value[0])
        denominator = lcm(denominator, value[1])
    return fraction(numerator, denominator)


def measure_paper(values):
    """Return the common measure and integer weights that make the values sum to it."""
    require(_is_value_list(values), "values")
    measure = ZERO
    weights = []
    for value in values:
        kept, added = _bezout(measure[0] * value[1], value[0] * measure[1])
        measure = weighted_sum([kept, added], [measure, value])
        weights = [weight * kept for weight in weights] + [added]
    return (measure, tuple(weights))


def is_measure_paper(values, paper):
    """Judge whether the paper is a measure certificate of the values."""
    require(_is_value_list(values), "values")
    if not isinstance(paper, tuple) or len(paper) != 2:
        return False
    measure, weights = paper
    if not is_fraction(measure) or not is_weights(weights, len(values)):
        return False
    if measure[0] < 0 or not all([_is_multiple(value, measure) for value in values]):
        return False
    return weighted_sum(weights, values) == measure


def is_weights(value, many):
    """Tell whether the value is a tuple of that many integers."""
    if not isinstance(value, tuple) or len(value) != many:
        return False
    return all([is_whole(weight) for weight in value])


def weighted_sum(weights, values):
    """Return the sum of integer weight times fraction."""
    total = ZERO
    for weight, value in zip(weights, values):
        total = plus(total, times(fraction(weight), value))
    return total


def _is_value_list(values):
    if not isinstance(values, list) or not 1 <= len(values) <= MOST_VALUES:
        return False
    return all([is_fraction(value) for value in values])


def _is_multiple(value, measure):
    if measure[0] == 0:
        return value[0] == 0
    return over(value, measure)[1] == 1


def _bezout(left, right):
    """Return integers u and v for which u * left + v * right is gcd(left, right)."""
    last, rest = left, right
    last_factor, factor = 1, 0
    while rest != 0:
        quotient = last // rest
        last, rest = rest, last - quotient * rest
        last_factor, factor = factor, last_factor - quotient * factor
    if last < 0:
        last, last_factor = -last, -last_factor
    if right == 0:
        return (last_factor, 0)
    return (last_factor, (last - last_factor * left) // right)
