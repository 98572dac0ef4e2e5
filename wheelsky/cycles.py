"""Cycles that turn evenly."""

from wheelsky.errors import Endless
from wheelsky.forms import require
from wheelsky.ratios import ONE, ZERO, is_fraction, is_place, magnitude, minus, negated, over, part_of, plus, times
from wheelsky.spacing import all_within, first_from
from wheelsky.spans import Span


class Cycle:
    """An even cycle with a rate in turns per day and its place at moment 0."""

    def __init__(self, rate, start=(0, 1)):
        require(is_fraction(rate), "rate")
        require(is_place(start), "start")
        self.rate = rate
        self.start = start
        self.period = _period_of(rate)

    @staticmethod
    def with_period(period, start=(0, 1)):
        """Return the cycle that turns once in a period, back if that is negative."""
        require(is_fraction(period) and period != ZERO, "period")
        require(is_place(start), "start")
        return Cycle(over(ONE, period), start)

    def __eq__(self, other):
        return isinstance(other, Cycle) and self.rate == other.rate and self.start == other.start

    def __add__(self, other):
        return Cycle(plus(self.rate, other.rate), part_of(plus(self.start, other.start)))

    def __sub__(self, other):
        return Cycle(minus(self.rate, other.rate), part_of(minus(self.start, other.start)))

    def __neg__(self):
        return Cycle(negated(self.rate), part_of(negated(self.start)))

    def turns(self, moment):
        """Return the turns at a moment, whole ones included."""
        require(is_fraction(moment), "moment")
        return plus(self.start, times(self.rate, moment))

    def place(self, moment):
        """Return the place at a moment."""
        require(is_fraction(moment), "moment")
        return part_of(self.turns(moment))

    def turned(self, by):
        """Return the cycle of the same rate that is ahead of this one by `by` turns."""
        require(is_fraction(by), "by")
        return Cycle(self.rate, part_of(plus(self.start, by)))

    def geared(self, factor):
        """Return the cycle with the rate and the start multiplied by a factor."""
        require(is_fraction(factor), "factor")
        return Cycle(times(self.rate, factor), part_of(times(self.start, factor)))

    def later(self, by):
        """Return the cycle that is at each moment where this one is `by` days later."""
        require(is_fraction(by), "by")
        return Cycle(self.rate, self.place(by))

    def next_at(self, place, moment):
        """Return the first moment, not before `moment`, at a place, or None."""
        require(is_place(place), "place")
        require(is_fraction(moment), "moment")
        if self.period is None:
            return moment if self.start == place else None
        return first_from(self._moment_at(place), self.period, moment)

    def visits(self, place, span):
        """Return all moments of a span, at most 400, at which the cycle is at a place."""
        require(is_place(place), "place")
        require(isinstance(span, Span), "span")
        if self.period is None:
            if self.start == place:
                raise Endless()
            return []
        return all_within(self._moment_at(place), self.period, span)

    def _moment_at(self, place):
        """Return one of the moments at which a cycle that is not still is at the place."""
        return over(minus(place, self.start), self.rate)


def _period_of(rate):
    if rate == ZERO:
        return None
    return over(ONE, magnitude(rate))
