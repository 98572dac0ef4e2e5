"""Skies: ordered lists of cycles with names."""

from wheelsky.cycles import Cycle
from wheelsky.errors import NoName, Still, Taken, TooMany
from wheelsky.forms import is_name, refuse_repeated, require
from wheelsky.ratios import ONE, ZERO, common_measure, is_fraction, over, times

MOST_CYCLES = 8


class Sky:
    """An ordered list of up to 8 tuples (name, cycle) with different names."""

    def __init__(self, rows):
        require(_are_rows(rows), "rows")
        refuse_repeated([name for name, _ in rows])
        self._rows = tuple(rows)

    @property
    def names(self):
        """The names in order, a new list."""
        return [name for name, _ in self._rows]

    def __iter__(self):
        return iter(self._rows)

    def __contains__(self, name):
        return is_name(name) and name in self.names

    def __eq__(self, other):
        return isinstance(other, Sky) and self._rows == other._rows

    def count(self):
        """Return the number of cycles."""
        return len(self._rows)

    def cycle(self, name):
        """Return the cycle with this name."""
        require(is_name(name), "name")
        for known, cycle in self._rows:
            if known == name:
                return cycle
        raise NoName(name)

    def places(self, moment):
        """Return the names and the places at a moment, in order."""
        require(is_fraction(moment), "moment")
        return [(name, cycle.place(moment)) for name, cycle in self._rows]

    def extended(self, name, cycle):
        """Return the sky with one more cycle behind the others."""
        require(is_name(name), "name")
        require(isinstance(cycle, Cycle), "cycle")
        if name in self.names:
            raise Taken(name)
        if len(self._rows) >= MOST_CYCLES:
            raise TooMany(MOST_CYCLES)
        return Sky(list(self._rows) + [(name, cycle)])

    def without(self, name):
        """Return the sky without one cycle."""
        require(is_name(name), "name")
        if name not in self.names:
            raise NoName(name)
        return Sky([row for row in self._rows if row[0] != name])

    def seen_from(self, name):
        """Return the sky with each cycle as it is seen from one of them."""
        viewer = self.cycle(name)
        return Sky([(other, cycle - viewer) for other, cycle in self._rows])

    def paced_by(self, name):
        """Return the sky that counts time in turns of one of its cycles."""
        pace = self.cycle(name).rate
        if pace == ZERO:
            raise Still()
        return Sky([(other, Cycle(over(cycle.rate, pace), cycle.start)) for other, cycle in self._rows])

    def later(self, by):
        """Return the sky that is at each moment as this one is `by` days later."""
        require(is_fraction(by), "by")
        return Sky([(name, cycle.later(by)) for name, cycle in self._rows])

    def great_period(self):
        """Return the least time after which all places come again, or None."""
        if len(self._rows) == 0:
            return None
        measure = common_measure([cycle.rate for _, cycle in self._rows])
        if measure == ZERO:
            return None
        return over(ONE, measure)

    def rounds(self):
        """Return the names and the whole turns in the great period, or None."""
        period = self.great_period()
        if period is None:
            return None
        return [(name, times(cycle.rate, period)[0]) for name, cycle in self._rows]


def _are_rows(value):
    if not isinstance(value, list) or len(value) > MOST_CYCLES:
        return False
    return all([_is_row(row) for row in value])


def _is_row(value):
    if not isinstance(value, tuple) or len(value) != 2:
        return False
    return is_name(value[0]) and isinstance(value[1], Cycle)
