"""Mixed counts: whole units and smaller parts, as days, hours and minutes."""

from wheelsky.errors import Mismatch
from wheelsky.forms import is_whole, is_whole_within, require
from wheelsky.ratios import floor_of, fraction, is_fraction, minus, negated, plus, times

MOST_PARTS = 4
LEAST_RADIX = 2
MOST_RADIX = 1000
HALF = (1, 2)


class Mixed:
    """A mixed count; its worth is whole + parts[0] / radices[0] + ..."""

    def __init__(self, whole, parts=(), *, radices=()):
        require(is_whole(whole), "whole")
        require(_are_parts(parts), "parts")
        require(_are_radices(radices), "radices")
        if not _fit(parts, radices):
            raise Mismatch()
        self.whole = whole
        self.parts = parts
        self.radices = radices
        self.worth = _worth(whole, parts, radices)

    def __eq__(self, other):
        return (
            isinstance(other, Mixed)
            and self.whole == other.whole
            and self.parts == other.parts
            and self.radices == other.radices
        )

    def __add__(self, other):
        if self.radices != other.radices:
            raise Mismatch()
        return _mixed_worth(plus(self.worth, other.worth), self.radices)

    def __sub__(self, other):
        if self.radices != other.radices:
            raise Mismatch()
        return _mixed_worth(minus(self.worth, other.worth), self.radices)

    def __neg__(self):
        return _mixed_worth(negated(self.worth), self.radices)


def mixed_of(value, *, radices):
    """Return the greatest mixed count up to the value, and the rest in least units."""
    require(is_fraction(value), "value")
    require(_are_radices(radices), "radices")
    counted = times(value, fraction(_least_units(radices)))
    units = floor_of(counted)
    return (_mixed_from(units, radices), minus(counted, fraction(units)))


def nearest_mixed(value, *, radices):
    """Return the mixed count nearest to the value, the greater one of two."""
    require(is_fraction(value), "value")
    require(_are_radices(radices), "radices")
    counted = times(value, fraction(_least_units(radices)))
    return _mixed_from(floor_of(plus(counted, HALF)), radices)


def _are_parts(value):
    if not isinstance(value, tuple) or len(value) > MOST_PARTS:
        return False
    return all([is_whole(part) and part >= 0 for part in value])


def _are_radices(value):
    if not isinstance(value, tuple) or len(value) > MOST_PARTS:
        return False
    return all([is_whole_within(radix, LEAST_RADIX, MOST_RADIX) for radix in value])


def _fit(parts, radices):
    if len(parts) != len(radices):
        return False
    return all([part < radix for part, radix in zip(parts, radices)])


def _least_units(radices):
    """Return how many least units make one whole unit."""
    units = 1
    for radix in radices:
        units = units * radix
    return units


def _worth(whole, parts, radices):
    units = whole
    for part, radix in zip(parts, radices):
        units = units * radix + part
    return fraction(units, _least_units(radices))


def _mixed_worth(worth, radices):
    """Return the mixed count of a worth that is a multiple of the least unit."""
    return _mixed_from(times(worth, fraction(_least_units(radices)))[0], radices)


def _mixed_from(units, radices):
    """Return the mixed count of so many least units."""
    whole = units
    parts = ()
    for radix in reversed(radices):
        whole, part = divmod(whole, radix)
        parts = (part,) + parts
    return Mixed(whole, parts, radices=radices)
