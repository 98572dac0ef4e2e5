"""The error of a motion against the one that it is meant to show."""

from wheelsky.forms import is_list_within, is_tuple_of, require
from wheelsky.motions import Motion
from wheelsky.ratios import compare, distance_of, floor_of, fraction, is_fraction
from wheelsky.ratios import minus, negated, offset_of, over, plus, times
from wheelsky.spans import Span

MOST_ROWS = 201
HALF = (1, 2)


def error_paper(pointer, target, span):
    """Return the error certificate: rows (first, last, at_first, at_last)."""
    require(isinstance(pointer, Motion), "pointer")
    require(isinstance(target, Motion), "target")
    require(isinstance(span, Span), "span")
    apart = pointer - target
    marks = [(moment, apart.turns(moment)) for moment in apart.breaks(span)]
    if len(marks) == 1:
        marks = marks + marks
    return [(first, last, begun, ended) for (first, begun), (last, ended) in zip(marks, marks[1:])]


def is_error_paper(pointer, target, span, paper):
    """Judge whether the paper is the error certificate."""
    right = error_paper(pointer, target, span)
    # True and False are equal to integers, so rows of the right form alone are compared.
    return _is_paper(paper) and paper == right


def paper_error(paper):
    """Return the greatest error that the paper shows, and its earliest moment."""
    require(_is_paper(paper) and _is_chain(paper), "paper")
    error, earliest = None, None
    for moment, turns in _marks_of(paper):
        distance = distance_of(turns)
        if error is None or compare(distance, error) > 0:
            error, earliest = distance, moment
    return (error, earliest)


def greatest_error(pointer, target, span):
    """Return the greatest error over the span, and its earliest moment."""
    return paper_error(error_paper(pointer, target, span))


def good_until(pointer, target, span, *, bound):
    """Return the last moment up to which the error is at most the bound, or None."""
    require(isinstance(pointer, Motion), "pointer")
    require(isinstance(target, Motion), "target")
    require(isinstance(span, Span), "span")
    require(is_fraction(bound) and bound[0] >= 0, "bound")
    paper = error_paper(pointer, target, span)
    if compare(distance_of(paper[0][2]), bound) > 0:
        return None
    if compare(bound, HALF) >= 0:
        return span.last
    for row in paper:
        moment = _leaving(row, bound)
        if moment is not None:
            return moment
    return span.last


def _is_paper(value):
    return is_list_within(value, 1, MOST_ROWS) and all([_is_row(row) for row in value])


def _is_row(value):
    return is_tuple_of(value, 4) and all([is_fraction(item) for item in value])


def _is_chain(paper):
    """Tell whether the rows go ahead, each from where the row before it ends."""
    if len(paper) == 1:
        return compare(paper[0][0], paper[0][1]) <= 0
    begins = [(first, begun) for first, _, begun, _ in paper]
    ends = [(last, ended) for _, last, _, ended in paper]
    return begins[1:] == ends[:-1] and all([compare(row[0], row[1]) < 0 for row in paper])


def _marks_of(paper):
    """Return pairs (moment, D) in order, the earliest with the greatest error among them."""
    marks = []
    for row in paper:
        first, last, begun, ended = row
        marks.append((first, begun))
        if first != last:
            marks.extend(_half_marks(row))
            marks.append((last, ended))
    return marks


def _half_marks(row):
    """Return a list with the first mark of a row at which D is an integer plus 1/2, if there is one."""
    _, last, begun, ended = row
    side = compare(begun, ended)
    if side == 0:
        return []
    half = _half_from(begun) if side < 0 else negated(_half_from(negated(begun)))
    moment = _moment_at(row, half)
    return [(moment, half)] if compare(moment, last) <= 0 else []


def _half_from(value):
    """Return the least integer plus 1/2 that is not less than the value."""
    return minus(HALF, fraction(floor_of(minus(HALF, value))))


def _leaving(row, bound):
    """Return the moment in a row behind which the error is first more than the bound, or None.

    At the beginning of the row it is at most the bound, which is less than 1/2.
    """
    _, last, begun, ended = row
    side = compare(begun, ended)
    if side == 0:
        return None
    middle = minus(begun, offset_of(begun))
    edge = plus(middle, bound) if side < 0 else minus(middle, bound)
    moment = _moment_at(row, edge)
    return moment if compare(moment, last) < 0 else None


def _moment_at(row, turns):
    """Return the moment at which the straight line of a row that is not level reaches D = turns."""
    first, last, begun, ended = row
    share = over(minus(turns, begun), minus(ended, begun))
    return plus(first, times(share, minus(last, first)))
