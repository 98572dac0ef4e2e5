"""Moments at which cycles are near the one that leads."""

from wheelsky.errors import TooMany
from wheelsky.forms import is_whole_within, require
from wheelsky.meetings import is_meeting_list
from wheelsky.ratios import ONE, ZERO, compare, distance_of, floor_of, fraction, is_fraction
from wheelsky.ratios import lesser, minus, plus, times
from wheelsky.spans import Span, overlaps

MOST_NEAR_SPANS = 200
TWO = (2, 1)
HALF = (1, 2)


def is_near(cycles, moment, *, width):
    """Tell whether all cycles are within `width` of the leader at a moment."""
    require(is_meeting_list(cycles), "cycles")
    require(is_fraction(moment), "moment")
    require(_is_width(width), "width")
    leader = cycles[0].place(moment)
    return all([compare(distance_of(minus(cycle.place(moment), leader)), width) <= 0 for cycle in cycles])


def near_spans(cycles, span, *, width):
    """Return all near spans within the span."""
    require(is_meeting_list(cycles), "cycles")
    require(isinstance(span, Span), "span")
    require(_is_width(width), "width")
    reach = times(TWO, width)
    # All lists are made before any two are compared, as each one may be too long.
    lists = [_lone_spans(gauge, reach, span) for gauge in _gauges(cycles, width)]
    common = [span]
    for spans in lists:
        common = overlaps(common, spans)
    return common


def near_paper(cycles, span, *, width):
    """Return a near certificate: rows (first, last, away)."""
    near = near_spans(cycles, span, width=width)
    gauges = _gauges(cycles, width)
    reach = times(TWO, width)
    rows = []
    reached = span.first
    for found in near:
        rows.extend(_far_rows(gauges, reach, reached, found.first))
        rows.append((found.first, found.last, None))
        reached = found.last
    rows.extend(_far_rows(gauges, reach, reached, span.last))
    return rows


def is_near_paper(cycles, span, paper, *, width):
    """Judge whether the paper is a near certificate of the cycles over the span."""
    require(is_meeting_list(cycles), "cycles")
    require(isinstance(span, Span), "span")
    require(_is_width(width), "width")
    if not isinstance(paper, list) or not all([_is_row(row, len(cycles)) for row in paper]):
        return False
    if len(paper) == 0:
        return span.length == ZERO and not is_near(cycles, span.first, width=width)
    if not _is_chain(paper, span):
        return False
    gauges = _gauges(cycles, width)
    reach = times(TWO, width)
    if not all([_row_holds(gauges, reach, row) for row in paper]):
        return False
    ends = _ends_of_far_rows(paper)
    return not any([is_near(cycles, moment, width=width) for moment in ends])


def next_near(cycles, moment, *, width, within=(100, 1)):
    """Return the first near moment from `moment` to moment + within, or None."""
    require(is_meeting_list(cycles), "cycles")
    require(is_fraction(moment), "moment")
    require(_is_width(width), "width")
    require(is_fraction(within) and within[0] >= 0, "within")
    near = near_spans(cycles, Span(moment, plus(moment, within)), width=width)
    return near[0].first if near else None


def near_days(cycles, span, *, width):
    """Return all integers in the span that are near moments."""
    require(is_meeting_list(cycles), "cycles")
    require(isinstance(span, Span), "span")
    require(_is_width(width), "width")
    return [day for day in span.days() if is_near(cycles, fraction(day), width=width)]


def _is_width(value):
    return is_fraction(value) and value[0] >= 0 and compare(value, HALF) < 0


def _gauges(cycles, width):
    """Return for each cycle but the leader a cycle that tells when it is near.

    The gauge is at a place from 0 to 2 * width exactly when the cycle is near, and
    it never turns back.
    """
    gauges = []
    for cycle in cycles[1:]:
        apart = cycle - cycles[0]
        # The distance from the leader is the same one on both sides.
        if apart.rate[0] < 0:
            apart = -apart
        gauges.append(apart.turned(width))
    return gauges


def _lone_spans(gauge, reach, span):
    """Return the spans within `span` in which the gauge is at a place up to `reach`."""
    if gauge.period is None:
        return [span] if compare(gauge.start, reach) <= 0 else []
    first_turn = -floor_of(minus(reach, gauge.turns(span.first)))
    last_turn = floor_of(gauge.turns(span.last))
    if last_turn - first_turn >= MOST_NEAR_SPANS:
        raise TooMany(MOST_NEAR_SPANS)
    length = times(reach, gauge.period)
    found = []
    for turn in range(first_turn, last_turn + 1):
        first = times(minus(fraction(turn), gauge.start), gauge.period)
        found.append(Span(first, plus(first, length)) & span)
    return found


def _far_rows(gauges, reach, first, last):
    """Return rows from first to last, between which no moment is near."""
    rows = []
    while compare(first, last) < 0:
        until, away = first, None
        for index, gauge in enumerate(gauges, start=1):
            end = _far_until(gauge, reach, first, last)
            if compare(end, until) > 0:
                until, away = end, index
        rows.append((first, until, away))
        first = until
    return rows


def _far_until(gauge, reach, first, last):
    """Return the end, `last` at most, of the stretch behind `first` that is far.

    It is `first` itself if the gauge is near at once behind it.
    """
    place = gauge.place(first)
    if gauge.period is None:
        return first if compare(place, reach) <= 0 else last
    if compare(place, reach) < 0:
        return first
    return lesser(plus(first, times(minus(ONE, place), gauge.period)), last)


def _is_row(row, many):
    if not isinstance(row, tuple) or len(row) != 3:
        return False
    first, last, away = row
    if not is_fraction(first) or not is_fraction(last):
        return False
    if away is None:
        return compare(first, last) <= 0
    return is_whole_within(away, 1, many - 1) and compare(first, last) < 0


def _is_chain(rows, span):
    """Tell whether the rows lead through the whole span, no two with None together."""
    begins = [row[0] for row in rows] + [span.last]
    ends = [span.first] + [row[1] for row in rows]
    if begins != ends:
        return False
    return not any([row[2] is None and after[2] is None for row, after in zip(rows, rows[1:])])


def _row_holds(gauges, reach, row):
    first, last, away = row
    if away is None:
        return all([_is_near_through(gauge, reach, first, last) for gauge in gauges])
    return _far_until(gauges[away - 1], reach, first, last) == last


def _is_near_through(gauge, reach, first, last):
    """Tell whether the gauge is near at all moments from first to last."""
    moved = times(gauge.rate, minus(last, first))
    return compare(plus(gauge.place(first), moved), reach) <= 0


def _ends_of_far_rows(rows):
    """Return the ends of rows with an index that are no ends of a row with None."""
    near_ends = {row[end] for row in rows if row[2] is None for end in (0, 1)}
    far_ends = [row[end] for row in rows if row[2] is not None for end in (0, 1)]
    return [moment for moment in far_ends if moment not in near_ends]
