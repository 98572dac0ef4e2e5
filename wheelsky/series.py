"""Series and families of dark meetings that come again after a number of returns."""

from wheelsky.darkening import Shade, dark_numbers
from wheelsky.errors import Endless, Mismatch, TooMany
from wheelsky.forms import is_tuple_of, is_whole, is_whole_within, require
from wheelsky.ratios import ONE, ZERO, compare, floor_of, fraction, magnitude, minus, negated
from wheelsky.ratios import offset_of, over, plus, times
from wheelsky.spacing import MOST_MOMENTS
from wheelsky.spans import Span

MOST_RETURNS = 1000
TWO = (2, 1)


def shift_of(shade, *, returns):
    """Return by how much the offset changes after so many meetings."""
    require(isinstance(shade, Shade), "shade")
    require(_is_returns(returns), "returns")
    return offset_of(times(fraction(returns), shade.gain))


def series_of(shade, number, *, returns):
    """Return the first and the last number of the series of a meeting, or None if it is not dark."""
    require(isinstance(shade, Shade), "shade")
    require(is_whole(number), "number")
    shift = _moving_shift(shade, returns)
    if not shade.is_dark(number):
        return None
    offset = shade.offset(number)
    behind = _steps_inside(offset, negated(shift), shade.width)
    ahead = _steps_inside(offset, shift, shade.width)
    return (number - behind * returns, number + ahead * returns)


def series_members(shade, number, *, returns):
    """Return all numbers, at most 400, of the series of a meeting; none if it is not dark."""
    ends = series_of(shade, number, returns=returns)
    if ends is None:
        return []
    first, last = ends
    if (last - first) // returns >= MOST_MOMENTS:
        raise TooMany(MOST_MOMENTS)
    return list(range(first, last + 1, returns))


def is_series(shade, answer, *, returns):
    """Judge whether the answer is the first and the last number of a series."""
    shift = _moving_shift(shade, returns)
    if not is_tuple_of(answer, 2) or not all([is_whole(number) for number in answer]):
        return False
    first, last = answer
    steps, rest = divmod(last - first, returns)
    if steps < 0 or rest != 0:
        return False
    if not shade.is_dark(first) or not shade.is_dark(last):
        return False
    if shade.is_dark(first - returns) or shade.is_dark(last + returns):
        return False
    return shade.offset(last) == plus(shade.offset(first), times(fraction(steps), shift))


def series_in(shade, span, *, returns):
    """Return for each series with a meeting in the span its ends and its numbers in the span."""
    require(isinstance(shade, Shade), "shade")
    require(isinstance(span, Span), "span")
    # Endless comes first, also if there are too many meetings.
    _moving_shift(shade, returns)
    found = {}
    for number in dark_numbers(shade, span):
        found.setdefault(series_of(shade, number, returns=returns), []).append(number)
    return [(first, last, found[(first, last)]) for first, last in sorted(found)]


def families(shade, span, *, returns):
    """Return the series with a meeting in the span, by the remainder of their numbers."""
    found = {}
    for first, last, _ in series_in(shade, span, returns=returns):
        found.setdefault(first % returns, []).append((first, last))
    return [(remainder, found[remainder]) for remainder in sorted(found)]


def next_series(shade, number, *, returns):
    """Return the series that follows that of a meeting in its family, or None if it is not dark."""
    ends = series_of(shade, number, returns=returns)
    shift = shift_of(shade, returns=returns)
    if compare(magnitude(shift), times(TWO, shade.width)) > 0:
        raise Mismatch()
    if ends is None:
        return None
    # The node has a whole turn to make; no shift is so great that it could pass the dark stretch.
    missing = minus(minus(ONE, shade.width), _toward(shade.offset(ends[1]), shift))
    steps = -floor_of(over(negated(missing), magnitude(shift)))
    return series_of(shade, ends[1] + steps * returns, returns=returns)


def best_returns(shade, *, most):
    """Return the least number of returns up to `most` with the least shift."""
    require(isinstance(shade, Shade), "shade")
    require(is_whole_within(most, 1, MOST_RETURNS), "most")
    numerator, denominator = shade.gain
    # The distances from the integers, all counted in parts of the same denominator.
    distances = []
    for returns in range(1, most + 1):
        ahead = returns * numerator % denominator
        distances.append(min(ahead, denominator - ahead))
    return distances.index(min(distances)) + 1


def _is_returns(value):
    return is_whole_within(value, 1, MOST_RETURNS)


def _moving_shift(shade, returns):
    shift = shift_of(shade, returns=returns)
    if shift == ZERO:
        raise Endless()
    return shift


def _toward(offset, shift):
    """Return the offset, counted in the direction of the shift."""
    return offset if shift[0] > 0 else negated(offset)


def _steps_inside(offset, shift, width):
    """Return how many shifts a dark offset can take and stay dark."""
    return floor_of(over(minus(width, _toward(offset, shift)), magnitude(shift)))
