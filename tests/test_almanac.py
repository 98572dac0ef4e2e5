"""Tests of the almanac [3] [4] [5] [6] [30] [34] [38] [40] [44] [45] [52] [53] [58] [59] [70] [77]."""

import math
import random
from fractions import Fraction

from tests.helpers import SkyCase, f, not_fractions, not_integers, num, objects_but
from tests.test_darkening import DAILY, LONG, NOT_SHADES, NOT_SPANS, seeded_shades, slow_offset
from tests.test_dates import LITTLE, MONTHS, TWIN
from tests.test_drift import slow_until
from tests.test_plans import NOT_PLANS, PLAN, seeded_plans
from tests.test_shafts import RING
from tests.test_skies import EIGHT, NOT_NAMES
from tests.test_slots import slow_carried
from wheelsky.almanac import dark_dates, designed, dial_errors, dial_place, trusted_until
from wheelsky.cycles import Cycle
from wheelsky.darkening import Shade, dark_numbers
from wheelsky.dates import Calendar, TwinCalendar
from wheelsky.drift import error_paper, good_until, greatest_error
from wheelsky.motions import even_motion
from wheelsky.plans import Plan
from wheelsky.shafts import Work, is_lock_loop
from wheelsky.skies import Sky
from wheelsky.slots import Slot
from wheelsky.spans import Span
from wheelsky.workshop import Workshop, built, replay

# The driver makes one turn a day; so does the dial, against cycles that are quicker or slower.
SPIN = Work([("a", "x", 10), ("b", "y", 10)], [("mesh", "a", "b")], driver="x")
SWAY = Slot([((0, 1), (0, 1)), ((1, 2), (1, 4))])
TEN = Span((0, 1), (10, 1))
NOT_BOUNDS = not_fractions() + [(-1, 2), (-1, LONG)]
NOT_TEETH = not_integers() + [0, 201, -1, LONG]
NOT_SKIES = [None, True, 1, [], (), "sky", [("a", Cycle((1, 2)))]] + objects_but(Sky)


def plan_of(rates, slots=None, pace=(1, 1)):
    """Return a plan whose dials, all on the driver, are meant to show cycles with these rates."""
    rows = [(f"c{number}", Cycle(f(rate))) for number, rate in enumerate(rates)]
    slots = slots or [None] * len(rows)
    named = [(f"t{number}", slot) for number, slot in enumerate(slots) if slot is not None]
    dials = [(f"d{number}", "x", (0, 1), f"t{number}" if slot is not None else None, f"c{number}")
             for number, slot in enumerate(slots)]
    return Plan(Sky(rows), named, SPIN, dials, pace=pace)


def moving(sky_rates):
    """Return a sky of cycles with these rates."""
    return Sky([(f"c{number}", Cycle(f(rate), f(Fraction(number, 7)))) for number, rate in enumerate(sky_rates)])


class DialErrorsTest(SkyCase):
    def test_plain(self):
        plan = plan_of([1, Fraction(101, 100), Fraction(99, 100)])
        self.assertEqual(dial_errors(plan, TEN), [("d0", (0, 1), (0, 1)), ("d1", (1, 10), (10, 1)), ("d2", (1, 10), (10, 1))])

    def test_dials_without_a_cycle(self):
        plan = Plan(Sky([("c", Cycle((2, 1)))]), [], SPIN, [("m", "x", (0, 1), None, None), ("n", "y", (1, 3), None, "c"),
                                                             ("o", "y", (1, 3), None, None), ("p", "x", (0, 1), None, "c")])
        self.assertEqual([row[0] for row in dial_errors(plan, TEN)], ["n", "p"])
        self.assertEqual(dial_errors(Plan(Sky([]), [], SPIN, []), TEN), [])
        self.assertEqual(dial_errors(Plan(Sky([]), [], SPIN, [("m", "x", (0, 1), None, None)]), TEN), [])

    def test_seeded(self):
        told = 0
        for plan in seeded_plans(1, 60):
            if plan.work.lock_loop() is not None:
                continue
            span = Span((-3, 2), (1, 2))
            rows = dial_errors(plan, span)
            shown = [dial for dial in plan.dials if dial[4] is not None]
            self.assertEqual([row[0] for row in rows], [dial[0] for dial in shown])
            for row, dial in zip(rows, shown):
                target = even_motion(plan.sky.cycle(dial[4]))
                self.assertEqual(row, (dial[0],) + greatest_error(plan.pointer(dial[0]), target, span))
                told += 1
        self.assertGreater(told, 50)

    def test_locked(self):
        for dials in ([("m", "x", (0, 1), None, "c")], [("m", "x", (0, 1), None, None)], []):
            plan = Plan(Sky([("c", Cycle((1, 2)))]), [], RING, dials)
            loops = [self.assert_locked(dial_errors, plan, TEN), self.assert_locked(dial_errors, plan, TEN),
                     self.assert_locked(trusted_until, plan, TEN, bound=(1, 2)),
                     self.assert_locked(trusted_until, plan, TEN, bound=(0, 1))]
            for number, loop in enumerate(loops):
                self.assert_true(is_lock_loop(RING, loop))
                loop.clear()
                for other in loops[number + 1:]:
                    self.assert_true(is_lock_loop(RING, other))

    def test_bad_values_go_before_locked(self):
        plan = Plan(Sky([]), [], RING, [])
        for call in (dial_errors, lambda plan, span: trusted_until(plan, span, bound=None)):
            for wrong in NOT_PLANS:
                self.assert_bad("plan", call, wrong, None)
            for wrong in NOT_SPANS:
                self.assert_bad("span", call, plan, wrong)
        for bound in NOT_BOUNDS:
            self.assert_bad("bound", trusted_until, plan, TEN, bound=bound)

    def test_too_many_for_one_dial(self):
        # Two knots: the driver with the pace 101 makes 202 visits and more in a day.
        day = Span((0, 1), (1, 1))
        for slots in ([SWAY, None], [None, SWAY]):
            self.assertEqual(len(dial_errors(plan_of([0, 0], slots, pace=(99, 1)), day)), 2)
            plan = plan_of([0, 0], slots, pace=(101, 1))
            self.assert_many(200, dial_errors, plan, day)
            # Also if another dial errs at once, or no bound is ever passed.
            for bound in ((0, 1), (1, 2), (5, 1)):
                self.assert_many(200, trusted_until, plan, day, bound=bound)

    def test_too_many_only_for_dials_with_a_cycle(self):
        plan = Plan(Sky([("c", Cycle((1, 1)))]), [("t", SWAY)], SPIN,
                    [("m", "x", (0, 1), "t", None), ("n", "x", (0, 1), None, "c")], pace=(LONG, 1))
        day = Span((0, 1), (1, 1))
        self.assertEqual([row[0] for row in dial_errors(plan, day)], ["n"])
        self.assertIsNotNone(trusted_until(plan, day, bound=(1, 5)))

    def test_before_none(self):
        # The first dial is off from the first moment, the second one has too many visits.
        sky = Sky([("c", Cycle((0, 1), (1, 2)))])
        dials = [("m", "y", (0, 1), None, "c"), ("n", "x", (0, 1), "t", "c")]
        plan = Plan(sky, [("t", SWAY)], SPIN, dials, pace=(101, 1))
        self.assert_many(200, trusted_until, plan, Span((0, 1), (1, 1)), bound=(0, 1))

    def test_lists_are_new(self):
        plan = plan_of([1])
        dial_errors(plan, TEN).clear()
        self.assertEqual(len(dial_errors(plan, TEN)), 1)


class TrustedUntilTest(SkyCase):
    def test_plain(self):
        plan = plan_of([1, Fraction(101, 100), Fraction(98, 100)])
        # The second cycle runs away by 1/100 a day, the third one by 2/100.
        for bound, moment in (((0, 1), (0, 1)), ((1, 50), (1, 1)), ((1, 10), (5, 1)), ((1, 5), (10, 1)), ((1, 2), (10, 1)),
                              ((7, 1), (10, 1))):
            self.assertEqual(trusted_until(plan, TEN, bound=bound), moment)
            self.assert_fraction(trusted_until(plan, TEN, bound=bound))

    def test_just_the_greatest_error(self):
        plan = plan_of([Fraction(101, 100)])
        self.assertEqual(trusted_until(plan, TEN, bound=(1, 10)), (10, 1))
        tiny = Fraction(1, LONG)
        self.assertEqual(trusted_until(plan, TEN, bound=f(Fraction(1, 10) - tiny)), f(10 - 100 * tiny))

    def test_a_bound_of_zero(self):
        self.assertEqual(trusted_until(plan_of([1, 1]), TEN, bound=(0, 1)), (10, 1))
        self.assertEqual(trusted_until(plan_of([1, 2]), Span((3, 1), (5, 1)), bound=(0, 1)), (3, 1))
        self.assertIsNone(trusted_until(plan_of([1, 2]), Span((1, 2), (5, 1)), bound=(0, 1)))

    def test_a_bound_of_a_half(self):
        for rates in ([1, 2], [0, 7], [Fraction(1, 3)]):
            self.assertEqual(trusted_until(plan_of(rates), Span((1, 2), (5, 1)), bound=(1, 2)), (5, 1))

    def test_none_if_one_is_more_at_the_first_moment(self):
        start = Span((-1, 1), (5, 1))
        self.assertIsNone(trusted_until(plan_of([1, Fraction(3, 2)]), start, bound=(2, 5)))
        self.assertIsNone(trusted_until(plan_of([Fraction(3, 2), 1]), start, bound=(2, 5)))
        self.assertEqual(trusted_until(plan_of([1]), start, bound=(2, 5)), (5, 1))

    def test_the_second_dial_is_the_first_to_err(self):
        for rates in ([Fraction(101, 100), Fraction(105, 100)], [Fraction(105, 100), Fraction(101, 100)]):
            self.assertEqual(trusted_until(plan_of(rates), TEN, bound=(1, 10)), (2, 1))

    def test_within_a_piece(self):
        plan = plan_of([1], [SWAY])
        # The lift grows by 1/2 of the turns, up to 1/4 at the half turn.
        self.assertEqual(trusted_until(plan, TEN, bound=(1, 10)), (1, 5))
        self.assertEqual(trusted_until(plan, TEN, bound=(1, 4)), (10, 1))

    def test_no_dial_names_a_cycle(self):
        for dials in ([], [("m", "x", (1, 2), None, None)]):
            plan = Plan(Sky([("c", Cycle((0, 1)))]), [], SPIN, dials)
            for last in ((10, 1), (0, 1)):
                self.assertEqual(trusted_until(plan, Span((0, 1), last), bound=(0, 1)), last)

    def test_seeded(self):
        source = random.Random(2)
        seen = {"none": 0, "whole": 0, "part": 0}
        for plan in seeded_plans(3, 160, 6):
            if plan.work.lock_loop() is not None:
                continue
            plan = Plan(plan.sky, plan.slots, plan.work, plan.dials, pace=(1, 9))
            span = Span(f(source.randint(-9, 9), 4), (3, 1))
            bound = f(source.choice((0, 1, 2, 3, 4, 5)), 10)
            moments = []
            for name, _, _, _, cycle in plan.dials:
                if cycle is not None:
                    paper = error_paper(plan.pointer(name), even_motion(plan.sky.cycle(cycle)), span)
                    rows = [tuple(num(item) for item in row) for row in paper]
                    moments.append(slow_until(rows, num(bound)))
                    self.assertEqual(moments[-1],
                                     good_until(plan.pointer(name), even_motion(plan.sky.cycle(cycle)), span, bound=bound))
            expected = None if None in moments else f(min([num(moment) for moment in moments] + [num(span.last)]))
            self.assertEqual(trusted_until(plan, span, bound=bound), expected)
            seen["none" if expected is None else "whole" if expected == span.last else "part"] += 1
        self.assertGreater(min(seen.values()), 5)


class DialPlaceTest(SkyCase):
    def test_plain(self):
        shop = built(PLAN.work)
        self.assertEqual([dial_place(PLAN, shop, name) for name in ("m", "s", "n", "o")],
                         [f(slow_carried(PLAN.slots[0][1].knots, Fraction(1, 4))), (0, 1), (2, 3), (2, 3)])
        shop.turn("x", (-3, 2))
        # m: 1/4 + 3/4 is a whole turn; s: -3/2.
        self.assertEqual([dial_place(PLAN, shop, name) for name in ("m", "s", "n", "o")], [(0, 1), (1, 2), (2, 3), (2, 3)])
        self.assertEqual(shop.looks, 0)

    def test_amounts_below_zero(self):
        shop = replay([("wheel", "a", "x", 1), ("turn", "x", (-LONG, 7))])
        plan = Plan(Sky([]), [("t", SWAY)], SPIN, [("m", "x", (1, 5), None, None), ("n", "x", (1, 5), "t", None)])
        turns = Fraction(1, 5) - Fraction(LONG, 7)
        self.assertEqual(dial_place(plan, shop, "m"), f(turns % 1))
        self.assertEqual(dial_place(plan, shop, "n"), f(slow_carried(SWAY.knots, turns) % 1))

    def test_seeded(self):
        source = random.Random(4)
        for plan in seeded_plans(5, 60):
            shop = Workshop()
            for wheel, shaft, teeth in plan.work.wheels:
                shop.add_wheel(wheel, shaft, teeth)
            for shaft in plan.work.shafts():
                shop.turn(shaft, f(source.randint(-40, 40), source.randint(1, 9)))
            slots = dict(plan.slots)
            for name, shaft, start, slot, _ in plan.dials:
                turns = num(start) + num(shop.amount(shaft))
                if slot is not None:
                    turns = slow_carried(slots[slot].knots, turns)
                records = shop.records()
                self.assertEqual(dial_place(plan, shop, name), f(turns % 1))
                self.assertEqual((shop.records(), shop.looks), (records, 0))

    def test_errors(self):
        empty = Workshop()
        self.assert_no_name("q", dial_place, PLAN, empty, "q")
        self.assert_no_name("x", dial_place, PLAN, empty, "x")
        self.assert_no_name("y", dial_place, PLAN, empty, "m")
        # A wheel called like the shaft is none.
        self.assert_no_name("y", dial_place, PLAN, replay([("wheel", "y", "x", 10)]), "m")
        self.assertEqual(dial_place(PLAN, replay([("wheel", "a", "x", 10)]), "s"), (0, 1))
        for plan in NOT_PLANS:
            self.assert_bad("plan", dial_place, plan, None, None)
        for shop in [None, True, [], PLAN] + objects_but(Workshop):
            self.assert_bad("shop", dial_place, PLAN, shop, None)
        for name in NOT_NAMES:
            self.assert_bad("dial", dial_place, PLAN, empty, name)

    def test_pace_and_lock_play_no_part(self):
        for pace in ((0, 1), (-7, 3)):
            plan = Plan(PLAN.sky, PLAN.slots, PLAN.work, PLAN.dials, pace=pace)
            shop = built(PLAN.work)
            shop.turn("x", (1, 3))
            for name in ("m", "s"):
                self.assertEqual(dial_place(plan, shop, name), dial_place(PLAN, shop, name))
        plan = Plan(Sky([]), [], RING, [("m", "x", (1, 4), None, None)])
        self.assertEqual(dial_place(plan, replay([("wheel", "a", "x", 1), ("turn", "x", (1, 2))]), "m"), (3, 4))


class DarkDatesTest(SkyCase):
    def test_plain(self):
        # Dark are the days 0, 3, 4, 6, 7 and what is a multiple of 10 away from them.
        calendar = Calendar((0, 0, 1), short=2)
        self.assertEqual(dark_dates(DAILY, calendar, Span((-1, 1), (7, 1))),
                         [(0, (0, 0)), (3, (1, 1)), (4, (2, 0)), (6, (2, 2)), (7, (3, 0))])
        rows = dark_dates(DAILY, LITTLE, Span((0, 1), (7, 1)))
        self.assertEqual(rows, [(number, LITTLE.date_of(number)) for number in (0, 3, 4, 6, 7)])
        self.assertEqual(dark_dates(DAILY, calendar, Span((1, 1), (2, 1))), [])

    def test_moments_below_zero(self):
        shade = Shade(Cycle((0, 1)), Cycle((2, 3)), Cycle((0, 1)), width=(0, 1))
        calendar = Calendar((0,), short=10)
        rows = dark_dates(shade, calendar, Span((-4, 1), (2, 1)))
        # The meetings -2 and -1 are at -3 and -3/2.
        self.assertEqual(rows, [(-2, (-1, 7)), (-1, (-1, 8)), (0, (0, 0)), (1, (0, 1))])

    def test_days_with_two_meetings(self):
        shade = Shade(Cycle((0, 1)), Cycle((2, 1)), Cycle((0, 1)), width=(1, 8))
        rows = dark_dates(shade, Calendar((0, 1), short=1), Span((0, 1), (2, 1)))
        self.assertEqual(rows, [(0, (0, 0)), (1, (0, 0)), (2, (1, 0)), (3, (1, 0)), (4, (1, 1))])

    def test_seeded(self):
        dark = 0
        for shade in seeded_shades(6, 60):
            for calendar in (MONTHS, TWIN):
                span = Span(f(-3 * num(shade.interval)), f(9 * num(shade.interval)))
                expected = []
                for number in range(-4, 11):
                    moment = num(shade.moment_of(number))
                    if num(span.first) <= moment <= num(span.last) and abs(slow_offset(shade, number)) <= num(shade.width):
                        expected.append((number, calendar.date_of(math.floor(moment))))
                self.assertEqual(dark_dates(shade, calendar, span), expected)
                self.assertEqual([row[0] for row in expected], dark_numbers(shade, span))
                dark += len(expected)
        self.assertGreater(dark, 100)

    def test_400_and_401_meetings(self):
        bright = Shade(Cycle((0, 1)), Cycle((1, 1)), Cycle((0, 1), (1, 2)), width=(0, 1))
        for calendar in (MONTHS, TWIN):
            self.assertGreater(len(dark_dates(DAILY, calendar, Span((1, 1), (400, 1)))), 100)
            self.assertEqual(dark_dates(bright, calendar, Span((1, 1), (400, 1))), [])
            for shade in (DAILY, bright):
                self.assert_many(400, dark_dates, shade, calendar, Span((0, 1), (400, 1)))
                self.assert_many(400, dark_dates, shade, calendar, Span((0, 1), (10 ** 30, 1)))

    def test_forms(self):
        for shade in NOT_SHADES:
            self.assert_bad("shade", dark_dates, shade, None, None)
        for calendar in [None, True, (0, 1)] + [thing for thing in objects_but(Calendar) if type(thing) is not TwinCalendar]:
            self.assert_bad("calendar", dark_dates, DAILY, calendar, None)
        for span in NOT_SPANS:
            self.assert_bad("span", dark_dates, DAILY, MONTHS, span)

    def test_lists_are_new(self):
        span = Span((0, 1), (7, 1))
        dark_dates(DAILY, MONTHS, span).clear()
        self.assertEqual(len(dark_dates(DAILY, MONTHS, span)), 5)


class DesignedTest(SkyCase):
    def test_plain(self):
        sky = Sky([("moon", Cycle((30, 13), (1, 4))), ("sun", Cycle((1, 1)))])
        plan = designed(sky, least=4, most=12)
        self.assertIs(type(plan), Plan)
        self.assert_true(plan.sky == sky)
        self.assertEqual(plan.work.wheels, [("a1", "d0", 9), ("b1", "s1", 4), ("a2", "d0", 4), ("b2", "s2", 4)])
        self.assertEqual([(link[0], sorted(link[1:])) for link in plan.work.links],
                         [("mesh", ["a1", "b1"]), ("mesh", ["a2", "b2"])])
        self.assertEqual((plan.work.driver, plan.pace, plan.slots), ("d0", (-1, 1), []))
        self.assertEqual(plan.dials, [("moon", "s1", (1, 4), None, "moon"), ("sun", "s2", (0, 1), None, "sun")])

    def test_seeded(self):
        source = random.Random(7)
        for count in (1, 2, 3, 4, 5, 6):
            for _ in range(4):
                least = source.randint(1, 60)
                most = source.randint(least, 60)
                sky = moving([Fraction(source.randint(1, 40), source.randint(1, 40)) for _ in range(count)])
                plan = designed(sky, least=least, most=most)
                self.assertEqual([wheel for wheel, _, _ in plan.work.wheels],
                                 [f"{side}{number}" for number in range(1, count + 1) for side in "ab"])
                self.assertEqual([shaft for _, shaft, _ in plan.work.wheels],
                                 [shaft for number in range(1, count + 1) for shaft in ("d0", f"s{number}")])
                teeth = [row[2] for row in plan.work.wheels]
                for (name, cycle), pair in zip(sky, zip(teeth[::2], teeth[1::2])):
                    self.assertEqual(pair, self.slow_pair(num(cycle.rate), least, most))
                    rate = plan.pointer(name).terms[0][1]
                    self.assertEqual(rate, Cycle(f(Fraction(*pair)), cycle.start))

    def slow_pair(self, value, least, most):
        """Return the teeth pair from the meaning."""
        pairs = [(a, b) for a in range(least, most + 1) for b in range(least, most + 1)]
        return min(pairs, key=lambda pair: (abs(Fraction(*pair) - value), sum(pair)))

    def test_ties_of_the_teeth(self):
        for rate, least, most, pair in (((1, 1), 3, 9, (3, 3)), ((2, 1), 3, 9, (6, 3)), ((3, 2), 1, 1, (1, 1)),
                                        ((LONG, 1), 2, 200, (200, 2)), ((1, LONG), 2, 200, (2, 200)), ((3, 2), 1, 2, (1, 1))):
            plan = designed(Sky([("c", Cycle(rate))]), least=least, most=most)
            self.assertEqual(tuple(row[2] for row in plan.work.wheels), pair)
            self.assertEqual(pair, self.slow_pair(num(rate), least, most))

    def test_sizes(self):
        six = Sky(EIGHT[1:7])
        self.assertEqual(len(designed(six, least=1, most=9).work.wheels), 12)
        # TooMany goes before Mismatch.
        for rows in (EIGHT, EIGHT[1:8], [(name, Cycle((0, 1))) for name, _ in EIGHT[:7]]):
            self.assert_many(6, designed, Sky(rows), least=1, most=9)
            self.assert_many(6, designed, Sky(rows), least=9, most=1)

    def test_mismatch(self):
        self.assert_mismatch(designed, Sky([]), least=1, most=9)
        for rate in ((0, 1), (-1, 1), (-1, LONG)):
            self.assert_mismatch(designed, Sky([("c", Cycle(rate))]), least=1, most=9)
            self.assert_mismatch(designed, Sky([("d", Cycle((1, 1))), ("c", Cycle(rate))]), least=1, most=9)
        sky = Sky([("c", Cycle((1, 1)))])
        for least, most in ((2, 1), (200, 199), (200, 1)):
            self.assert_mismatch(designed, sky, least=least, most=most)
        self.assertEqual([row[2] for row in designed(sky, least=200, most=200).work.wheels], [200, 200])
        self.assertEqual([row[2] for row in designed(sky, least=1, most=1).work.wheels], [1, 1])

    def test_forms(self):
        for sky in NOT_SKIES:
            self.assert_bad("sky", designed, sky, least=0, most=0)
        for teeth in NOT_TEETH:
            self.assert_bad("least", designed, Sky(EIGHT), least=teeth, most=0)
            self.assert_bad("most", designed, Sky(EIGHT), least=1, most=teeth)
