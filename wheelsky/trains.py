"""Trains of wheels, and the teeth that make a ratio."""

from wheelsky.errors import Mismatch
from wheelsky.forms import is_list_within, is_tuple_of, is_whole, is_whole_within, require
from wheelsky.ratios import ONE, compare, floor_of, fraction, is_fraction, magnitude, minus, times

MOST_PAIR_TEETH = 200
MOST_TRAIN_TEETH = 1000
MOST_SPLIT_TEETH = 100
MOST_PAIRS = 6
MOST_PARTS = 3
MOST_SCALE = 8


def teeth_pair(value, *, least, most):
    """Return the pair (driver, driven) whose ratio is nearest to the value."""
    require(_is_positive(value), "value")
    require(is_whole_within(least, 1, MOST_PAIR_TEETH), "least")
    require(is_whole_within(most, 1, MOST_PAIR_TEETH), "most")
    _refuse_empty(least, most)
    best = None
    for driven in range(least, most + 1):
        # Of all drivers, one of the two beside the exact number of teeth is nearest.
        below = floor_of(times(value, fraction(driven)))
        for driver in (_clamped(below, least, most), _clamped(below + 1, least, most)):
            pair = (driver, driven)
            if best is None or _is_nearer(pair, best, value):
                best = pair
    return best


def train_ratio(train):
    """Return the turns of the last driven wheel for one turn of the first driver."""
    require(_is_train(train), "train")
    ratio = ONE
    for driver, driven in train:
        ratio = times(ratio, fraction(-driver, driven))
    return ratio


def splits(number, *, parts, least, most):
    """Return all splits of the number into `parts` factors, in ascending order."""
    require(is_whole(number) and number >= 1, "number")
    require(is_whole_within(parts, 1, MOST_PARTS), "parts")
    require(is_whole_within(least, 1, MOST_SPLIT_TEETH), "least")
    require(is_whole_within(most, 1, MOST_SPLIT_TEETH), "most")
    _refuse_empty(least, most)
    return _splits(number, parts, least, most)


def fewest_train(value, *, least, most, scale=6):
    """Return the train with the fewest pairs whose ratio is the value, but for the sign, or None."""
    require(_is_positive(value), "value")
    require(is_whole_within(least, 1, MOST_SPLIT_TEETH), "least")
    require(is_whole_within(most, 1, MOST_SPLIT_TEETH), "most")
    require(is_whole_within(scale, 1, MOST_SCALE), "scale")
    _refuse_empty(least, most)
    for parts in range(1, MOST_PARTS + 1):
        for factor in range(1, scale + 1):
            drivers = _splits(factor * value[0], parts, least, most)
            driven = _splits(factor * value[1], parts, least, most)
            if drivers and driven:
                return list(zip(drivers[0], driven[0]))
    return None


def _is_positive(value):
    return is_fraction(value) and value[0] > 0


def _is_train(value):
    return is_list_within(value, 1, MOST_PAIRS) and all([_is_pair(pair) for pair in value])


def _is_pair(value):
    return is_tuple_of(value, 2) and all([is_whole_within(teeth, 1, MOST_TRAIN_TEETH) for teeth in value])


def _refuse_empty(least, most):
    if most < least:
        raise Mismatch()


def _clamped(number, least, most):
    return max(least, min(number, most))


def _is_nearer(pair, best, value):
    side = compare(_off(pair, value), _off(best, value))
    return side < 0 or (side == 0 and sum(pair) < sum(best))


def _off(pair, value):
    return magnitude(minus(fraction(pair[0], pair[1]), value))


def _splits(number, parts, least, most):
    if parts == 1:
        return [(number,)] if least <= number <= most else []
    found = []
    for first in range(least, most + 1):
        if number % first == 0:
            for others in _splits(number // first, parts - 1, first, most):
                found.append((first,) + others)
    return found
