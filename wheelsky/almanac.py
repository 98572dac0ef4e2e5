"""What plans, workshops, shades and calendars tell together."""

from wheelsky.darkening import Shade, roll
from wheelsky.dates import Calendar, TwinCalendar
from wheelsky.drift import good_until, greatest_error
from wheelsky.errors import Mismatch, TooMany
from wheelsky.forms import is_whole_within, require
from wheelsky.motions import even_motion
from wheelsky.plans import Plan, dial_called, slot_of
from wheelsky.ratios import floor_of, is_fraction, lesser, part_of, plus
from wheelsky.shafts import Work, refuse_locked
from wheelsky.skies import Sky
from wheelsky.spans import Span
from wheelsky.trains import MOST_PAIR_TEETH, teeth_pair
from wheelsky.workshop import Workshop

MOST_DESIGNED = 6
BACK = (-1, 1)


def dial_errors(plan, span):
    """Return a row (dial, error, moment) for each dial that names a cycle."""
    require(isinstance(plan, Plan), "plan")
    require(isinstance(span, Span), "span")
    refuse_locked(plan.work)
    rows = []
    for name, pointer, target in _showing(plan):
        error, moment = greatest_error(pointer, target, span)
        rows.append((name, error, moment))
    return rows


def trusted_until(plan, span, *, bound):
    """Return the last moment up to which all dials err by at most the bound, or None."""
    require(isinstance(plan, Plan), "plan")
    require(isinstance(span, Span), "span")
    require(is_fraction(bound) and bound[0] >= 0, "bound")
    refuse_locked(plan.work)
    # All dials are asked before any answer, as each one may have too many visits.
    moments = [good_until(pointer, target, span, bound=bound) for _, pointer, target in _showing(plan)]
    if None in moments:
        return None
    earliest = span.last
    for moment in moments:
        earliest = lesser(earliest, moment)
    return earliest


def dial_place(plan, shop, dial):
    """Return the place that a dial of the plan shows in the workshop."""
    require(isinstance(plan, Plan), "plan")
    require(isinstance(shop, Workshop), "shop")
    _, shaft, start, _, _ = dial_called(plan, dial)
    return part_of(slot_of(plan, dial).carried(plus(start, shop.amount(shaft))))


def dark_dates(shade, calendar, span):
    """Return the tuples (number, date) of the dark meetings in the span."""
    require(isinstance(shade, Shade), "shade")
    require(isinstance(calendar, Calendar) or isinstance(calendar, TwinCalendar), "calendar")
    return [(number, calendar.date_of(floor_of(moment))) for number, moment, _, dark in roll(shade, span) if dark]


def designed(sky, *, least, most):
    """Return the plan of a work that shows each cycle of the sky by one pair of wheels."""
    require(isinstance(sky, Sky), "sky")
    require(is_whole_within(least, 1, MOST_PAIR_TEETH), "least")
    require(is_whole_within(most, 1, MOST_PAIR_TEETH), "most")
    if sky.count() > MOST_DESIGNED:
        raise TooMany(MOST_DESIGNED)
    if sky.count() == 0 or most < least or any([cycle.rate[0] <= 0 for _, cycle in sky]):
        raise Mismatch()
    wheels, links, dials = [], [], []
    for number, (name, cycle) in enumerate(sky, start=1):
        driving, driven = teeth_pair(cycle.rate, least=least, most=most)
        wheels.extend([(f"a{number}", "d0", driving), (f"b{number}", f"s{number}", driven)])
        links.append(("mesh", f"a{number}", f"b{number}"))
        dials.append((name, f"s{number}", cycle.start, None, name))
    # The driver goes back, so that the shafts, which go the other way, go ahead.
    return Plan(sky, [], Work(wheels, links, driver="d0"), dials, pace=BACK)


def _showing(plan):
    """Return for each dial that names a cycle its name, its pointer and the motion of the cycle."""
    rows = []
    for name, _, _, _, cycle in plan.dials:
        if cycle is not None:
            rows.append((name, plan.pointer(name), even_motion(plan.sky.cycle(cycle))))
    return rows
