"""Motions: sums of cycles that are carried by slots."""

from wheelsky.cycles import Cycle
from wheelsky.errors import TooMany
from wheelsky.forms import is_list_within, is_tuple_of, require
from wheelsky.ordering import in_order
from wheelsky.ratios import ONE, ZERO, greater, is_fraction, minus, negated, over, part_of, plus, times
from wheelsky.slots import Slot, even_slot
from wheelsky.spacing import count_within
from wheelsky.spans import Span, joined

MOST_MOTION_TERMS = 6
MOST_VISITS = 200


class Motion:
    """A sum of 1 to 6 terms (weight, cycle, slot)."""

    def __init__(self, terms):
        require(_are_terms(terms), "terms")
        self._terms = tuple(terms)

    @property
    def terms(self):
        """The terms in order, a new list."""
        return list(self._terms)

    def __add__(self, other):
        return _motion_of(self._terms + other._terms)

    def __sub__(self, other):
        return _motion_of(self._terms + _negated_terms(other._terms))

    def __neg__(self):
        return _motion_of(_negated_terms(self._terms))

    def scaled(self, factor):
        """Return the motion with all weights multiplied by a factor."""
        require(is_fraction(factor), "factor")
        return Motion([(times(weight, factor), cycle, slot) for weight, cycle, slot in self._terms])

    def turns(self, moment):
        """Return the turns at a moment, whole ones included."""
        require(is_fraction(moment), "moment")
        total = ZERO
        for weight, cycle, slot in self._terms:
            total = plus(total, times(weight, slot.carried(cycle.turns(moment))))
        return total

    def place(self, moment):
        """Return the place at a moment."""
        require(is_fraction(moment), "moment")
        return part_of(self.turns(moment))

    def breaks(self, span):
        """Return the ends of the span and the moments of all visits in it, each once."""
        require(isinstance(span, Span), "span")
        rows = _knots_passed(self._terms)
        visits = sum([count_within(cycle.next_at(place, span.first), cycle.period, span) for cycle, place in rows])
        if visits > MOST_VISITS:
            raise TooMany(MOST_VISITS)
        moments = [span.first, span.last]
        for cycle, place in rows:
            moments.extend(cycle.visits(place, span))
        return _each_once(moments)

    def pieces(self, span):
        """Return the pieces (first, last, turns, rate) in order."""
        require(isinstance(span, Span), "span")
        marks = [(moment, self.turns(moment)) for moment in self.breaks(span)]
        found = []
        for (first, turns), (last, reached) in zip(marks, marks[1:]):
            found.append((first, last, turns, over(minus(reached, turns), minus(last, first))))
        return found


def even_motion(cycle):
    """Return the motion of one cycle without any lift."""
    require(isinstance(cycle, Cycle), "cycle")
    return Motion([(ONE, cycle, even_slot())])


def still_spans(motion, span):
    """Return the spans in which the motion stands still."""
    require(isinstance(motion, Motion), "motion")
    require(isinstance(span, Span), "span")
    return _spans_of([piece for piece in motion.pieces(span) if piece[3][0] == 0])


def back_spans(motion, span):
    """Return the spans in which the motion goes back."""
    require(isinstance(motion, Motion), "motion")
    require(isinstance(span, Span), "span")
    return _spans_of([piece for piece in motion.pieces(span) if piece[3][0] < 0])


def quickest(motion, span):
    """Return the greatest rate and the spans that have it, or None for a single moment."""
    require(isinstance(motion, Motion), "motion")
    require(isinstance(span, Span), "span")
    pieces = motion.pieces(span)
    if len(pieces) == 0:
        return None
    rate = pieces[0][3]
    for piece in pieces:
        rate = greater(rate, piece[3])
    return (rate, _spans_of([piece for piece in pieces if piece[3] == rate]))


def _are_terms(value):
    return is_list_within(value, 1, MOST_MOTION_TERMS) and all([_is_term(term) for term in value])


def _is_term(value):
    if not is_tuple_of(value, 3):
        return False
    return is_fraction(value[0]) and isinstance(value[1], Cycle) and isinstance(value[2], Slot)


def _negated_terms(terms):
    return tuple([(negated(weight), cycle, slot) for weight, cycle, slot in terms])


def _motion_of(terms):
    if len(terms) > MOST_MOTION_TERMS:
        raise TooMany(MOST_MOTION_TERMS)
    return Motion(list(terms))


def _knots_passed(terms):
    """Return pairs (cycle, place) of the cycles that move and the places at which they visit a knot."""
    found = []
    for _, cycle, slot in terms:
        if cycle.period is not None and len(slot.knots) > 1:
            found.extend([(cycle, place) for place, _ in slot.knots])
    return found


def _each_once(moments):
    """Return the moments in ascending order, each once."""
    found = []
    for row in in_order([(moment,) for moment in moments]):
        if not found or found[-1] != row[0]:
            found.append(row[0])
    return found


def _spans_of(pieces):
    return joined([Span(piece[0], piece[1]) for piece in pieces])
