"""Meetings of a light and a cover, dark ones among them."""

from wheelsky.cycles import Cycle
from wheelsky.errors import Still
from wheelsky.forms import is_whole, is_whole_within, require
from wheelsky.meetings import meeting_rule
from wheelsky.ratios import compare, floor_of, fraction, is_fraction, magnitude, minus, offset_of, over, plus, times
from wheelsky.spacing import all_within
from wheelsky.spans import Span

QUARTER = (1, 4)
MOST_WITHIN = 400


class Shade:
    """A light and a cover that meet, and a node: near it, within `width`, a meeting is dark."""

    def __init__(self, light, cover, node, *, width):
        require(isinstance(light, Cycle), "light")
        require(isinstance(cover, Cycle), "cover")
        require(isinstance(node, Cycle), "node")
        require(_is_width(width), "width")
        if light.rate == cover.rate:
            raise Still()
        self.light = light
        self.cover = cover
        self.node = node
        self.width = width
        first, interval = meeting_rule([light, cover])
        self._first = first
        self.interval = interval
        self.gain = times(interval, minus(node.rate, light.rate))

    def moment_of(self, number):
        """Return the moment of the meeting with this number."""
        require(is_whole(number), "number")
        return plus(self._first, times(fraction(number), self.interval))

    def offset(self, number):
        """Return how far the node is ahead of the light at the meeting with this number."""
        moment = self.moment_of(number)
        return offset_of(minus(self.node.turns(moment), self.light.turns(moment)))

    def is_dark(self, number):
        """Tell whether the meeting with this number is dark."""
        return compare(magnitude(self.offset(number)), self.width) <= 0

    def number_from(self, moment):
        """Return the least number whose meeting is at the moment or later."""
        require(is_fraction(moment), "moment")
        return -floor_of(over(minus(self._first, moment), self.interval))


def roll(shade, span):
    """Return the rows (number, moment, offset, dark) of all meetings in the span, at most 400."""
    require(isinstance(shade, Shade), "shade")
    require(isinstance(span, Span), "span")
    moments = all_within(shade.moment_of(0), shade.interval, span)
    rows = []
    for number, moment in enumerate(moments, start=shade.number_from(span.first)):
        rows.append((number, moment, shade.offset(number), shade.is_dark(number)))
    return rows


def dark_numbers(shade, span):
    """Return the numbers of the dark meetings in the span."""
    return [number for number, _, _, dark in roll(shade, span) if dark]


def next_dark(shade, number, *, within=200):
    """Return the first of `within` numbers, from this one on, whose meeting is dark, or None."""
    require(isinstance(shade, Shade), "shade")
    require(is_whole(number), "number")
    require(is_whole_within(within, 1, MOST_WITHIN), "within")
    for later in range(number, number + within):
        if shade.is_dark(later):
            return later
    return None


def _is_width(value):
    return is_fraction(value) and value[0] >= 0 and compare(value, QUARTER) < 0
