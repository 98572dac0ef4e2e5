"""Spans of moments, and lists of them."""

from wheelsky.errors import Mismatch, TooMany
from wheelsky.forms import require
from wheelsky.ordering import in_order
from wheelsky.ratios import compare, floor_of, greater, is_fraction, lesser, minus, negated, plus

MOST_DAYS = 400
MOST_SPANS = 400


class Span:
    """All moments from `first` to `last`, both included."""

    def __init__(self, first, last):
        require(is_fraction(first), "first")
        require(is_fraction(last), "last")
        if compare(last, first) < 0:
            raise Mismatch()
        self.first = first
        self.last = last
        self.length = minus(last, first)

    def __eq__(self, other):
        return isinstance(other, Span) and self.first == other.first and self.last == other.last

    def __contains__(self, moment):
        if not is_fraction(moment):
            return False
        return compare(self.first, moment) <= 0 and compare(moment, self.last) <= 0

    def __and__(self, other):
        first = greater(self.first, other.first)
        last = lesser(self.last, other.last)
        if compare(last, first) < 0:
            return None
        return Span(first, last)

    def moved(self, by):
        """Return the span with `by` added to both ends."""
        require(is_fraction(by), "by")
        return Span(plus(self.first, by), plus(self.last, by))

    def cut(self, moment):
        """Return the spans before and after a moment of this one, which both contain it."""
        require(is_fraction(moment), "moment")
        if moment not in self:
            raise Mismatch()
        return (Span(self.first, moment), Span(moment, self.last))

    def days(self):
        """Return all integers in the span, at most 400."""
        first = -floor_of(negated(self.first))
        last = floor_of(self.last)
        if last - first >= MOST_DAYS:
            raise TooMany(MOST_DAYS)
        return list(range(first, last + 1))


def joined(spans):
    """Return the shortest ascending list of spans with the same moments."""
    require(_is_span_list(spans), "spans")
    return _union(spans)


def gaps(spans, within):
    """Return the spans of positive length that lie in `within` between the spans."""
    require(_is_span_list(spans), "spans")
    require(isinstance(within, Span), "within")
    found = []
    reached = within.first
    for span in _union(spans):
        if compare(span.last, within.first) < 0:
            continue
        until = lesser(span.first, within.last)
        if compare(reached, until) < 0:
            found.append(Span(reached, until))
        reached = span.last
    if compare(reached, within.last) < 0:
        found.append(Span(reached, within.last))
    return found


def shared(left, right):
    """Return the joined form of what a span of each of two lists have in common."""
    require(_is_span_list(left), "left")
    require(_is_span_list(right), "right")
    return overlaps(_union(left), _union(right))


def overlaps(left, right):
    """Return the joined form of the moments that two lists in joined form both have."""
    found = []
    near = 0
    far = 0
    while near < len(left) and far < len(right):
        common = left[near] & right[far]
        if common is not None:
            found.append(common)
        # Whichever ends first meets nothing more: the spans of the other list ascend.
        if compare(left[near].last, right[far].last) < 0:
            near += 1
        else:
            far += 1
    return found


def _is_span_list(value):
    if not isinstance(value, list) or len(value) > MOST_SPANS:
        return False
    return all([isinstance(span, Span) for span in value])


def _union(spans):
    """Return the joined form of any number of spans."""
    found = []
    for _, span in in_order([(span.first, span) for span in spans]):
        if found and compare(span.first, found[-1].last) <= 0:
            found[-1] = Span(found[-1].first, greater(found[-1].last, span.last))
        else:
            found.append(span)
    return found
