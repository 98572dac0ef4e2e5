"""Slots: uneven motion, told in straight pieces."""

from wheelsky.forms import is_list_within, is_tuple_of, require
from wheelsky.ratios import ONE, ZERO, compare, greater, is_fraction, is_place, magnitude
from wheelsky.ratios import minus, over, part_of, plus, times

MOST_KNOTS = 8


class Slot:
    """A slot with knots (place, lift), of which the first one is at the place 0."""

    def __init__(self, knots):
        require(_are_knots(knots), "knots")
        self._knots = tuple(knots)

    @property
    def knots(self):
        """The knots in order, a new list."""
        return list(self._knots)

    def __eq__(self, other):
        return isinstance(other, Slot) and self._knots == other._knots

    def carried(self, turns):
        """Return the turns to which the slot carries these turns."""
        require(is_fraction(turns), "turns")
        place = part_of(turns)
        index = len([knot for knot in self._knots if compare(knot[0], place) <= 0]) - 1
        knot, end = self._pieces()[index]
        behind = minus(place, knot[0])
        # The slope counts the turns themselves too, so they count only up to the knot.
        return plus(plus(minus(turns, behind), knot[1]), times(behind, _slope(knot, end)))

    def slopes(self):
        """Return the slopes of the pieces in order."""
        return [_slope(knot, end) for knot, end in self._pieces()]

    def sway(self):
        """Return the greatest absolute value of a lift."""
        most = ZERO
        for _, lift in self._knots:
            most = greater(most, magnitude(lift))
        return most

    def _pieces(self):
        """Return for each piece the knots at its beginning and at its end."""
        first_again = (ONE, self._knots[0][1])
        return list(zip(self._knots, self._knots[1:] + (first_again,)))


def even_slot():
    """Return the slot that leaves all turns as they are."""
    return Slot([(ZERO, ZERO)])


def _are_knots(value):
    if not is_list_within(value, 1, MOST_KNOTS) or not all([_is_knot(knot) for knot in value]):
        return False
    ascend = [compare(knot[0], after[0]) < 0 for knot, after in zip(value, value[1:])]
    return value[0][0] == ZERO and all(ascend)


def _is_knot(value):
    return is_tuple_of(value, 2) and is_place(value[0]) and is_fraction(value[1])


def _slope(knot, end):
    rise = minus(end[1], knot[1])
    return plus(ONE, over(rise, minus(end[0], knot[0])))
