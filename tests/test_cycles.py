"""Tests of cycles [4] [5] [6] [10] [16] [17]."""

import itertools
import math
import random
from fractions import Fraction

from tests.helpers import SkyCase, f, not_fractions, num, objects
from wheelsky.cycles import Cycle
from wheelsky.spans import Span

LONG = int("9" * 80)
RATES = [(0, 1), (1, 1), (-1, 1), (1, 7), (-5, 3), (10 ** 39, 7), (-3, 10 ** 39)]
STARTS = [(0, 1), (1, 2), (2, 3), (10 ** 39 - 1, 10 ** 39)]
MOMENTS = [(0, 1), (1, 1), (-1, 1), (7, 2), (-22, 7), f(LONG, 3), f(-LONG, 10 ** 79)]
CYCLES = [Cycle(rate, start) for rate in RATES for start in STARTS]


def part(value):
    """Return the part of a number."""
    return value - math.floor(value)


def not_places():
    """Return values that are no places."""
    return not_fractions() + [(1, 1), (-1, 2), (3, 2), (10 ** 39, 10 ** 39 - 1), (-1, 10 ** 39)]


class CycleTest(SkyCase):
    def test_attributes(self):
        cycle = Cycle((-2, 3), (1, 4))
        self.assertEqual((cycle.rate, cycle.start, cycle.period), ((-2, 3), (1, 4), (3, 2)))
        self.assertEqual(Cycle((1, 3)).start, (0, 1))
        self.assertIsNone(Cycle((0, 1)).period)
        self.assertIsNone(Cycle((0, 1), (1, 2)).period)
        self.assertEqual(Cycle((1, 3)).period, (3, 1))

    def test_with_period(self):
        cycle = Cycle.with_period((4, 3), (1, 2))
        self.assertIs(type(cycle), Cycle)
        self.assertEqual((cycle.rate, cycle.start, cycle.period), ((3, 4), (1, 2), (4, 3)))
        back = Cycle.with_period((-4, 3))
        self.assertEqual((back.rate, back.start, back.period), ((-3, 4), (0, 1), (4, 3)))
        self.assertEqual(Cycle.with_period((LONG, 7)).rate, (7, LONG))

    def test_wrong_forms(self):
        for value in not_fractions():
            self.assert_bad("rate", Cycle, value)
            self.assert_bad("rate", Cycle, value, value)
            self.assert_bad("period", Cycle.with_period, value)
            self.assert_bad("period", Cycle.with_period, value, (1, 1))
        self.assert_bad("period", Cycle.with_period, (0, 1))
        self.assert_bad("period", Cycle.with_period, (0, 1), (1, 1))
        for value in not_places():
            self.assert_bad("start", Cycle, (1, 2), value)
            self.assert_bad("start", Cycle, (0, 1), value)
            self.assert_bad("start", Cycle.with_period, (1, 2), value)

    def test_turns_and_place(self):
        for cycle, moment in itertools.product(CYCLES, MOMENTS):
            turns = num(cycle.start) + num(cycle.rate) * num(moment)
            self.assertEqual(cycle.turns(moment), f(turns))
            self.assertEqual(cycle.place(moment), f(part(turns)))

    def test_moments_have_their_form(self):
        cycle = Cycle((1, 3))
        for value in not_fractions():
            self.assert_bad("moment", cycle.turns, value)
            self.assert_bad("moment", cycle.place, value)
            self.assert_bad("by", cycle.turned, value)
            self.assert_bad("by", cycle.later, value)
            self.assert_bad("factor", cycle.geared, value)


class OperatorsTest(SkyCase):
    def test_sums_by_places(self):
        for a, b in itertools.product(CYCLES, CYCLES):
            for answer, rate, start in (
                (a + b, num(a.rate) + num(b.rate), num(a.start) + num(b.start)),
                (a - b, num(a.rate) - num(b.rate), num(a.start) - num(b.start)),
                (-a, -num(a.rate), -num(a.start)),
            ):
                self.assertIs(type(answer), Cycle)
                self.assertEqual((answer.rate, answer.start), (f(rate), f(part(start))))

    def test_places_at_moments(self):
        for a, b in itertools.product(CYCLES[3:12], CYCLES[:9]):
            for moment in MOMENTS:
                difference = num(a.place(moment)) - num(b.place(moment))
                self.assertEqual((a - b).place(moment), f(part(difference)))
                total = num(a.place(moment)) + num(b.place(moment))
                self.assertEqual((a + b).place(moment), f(part(total)))

    def test_equality(self):
        cycle = Cycle((1, 3), (1, 2))
        self.assert_true(cycle == Cycle((1, 3), (1, 2)))
        self.assert_true(cycle == Cycle.with_period((3, 1), (1, 2)))
        self.assert_false(cycle != Cycle((1, 3), (1, 2)))
        for other in (Cycle((-1, 3), (1, 2)), Cycle((1, 3)), Cycle((0, 1), (1, 2))):
            self.assert_false(cycle == other)
            self.assert_true(cycle != other)
        others = objects()
        del others[1]
        for other in [((1, 3), (1, 2)), None, True, 0, [], "x"] + others:
            self.assert_false(cycle == other)
            self.assert_true(cycle != other)


class ChangedTest(SkyCase):
    def test_turned_geared_later(self):
        for cycle, by in itertools.product(CYCLES, MOMENTS):
            turned, geared, later = cycle.turned(by), cycle.geared(by), cycle.later(by)
            self.assertEqual((turned.rate, later.rate), (cycle.rate, cycle.rate))
            self.assertEqual(turned.start, f(part(num(cycle.start) + num(by))))
            self.assertEqual(geared.rate, f(num(cycle.rate) * num(by)))
            self.assertEqual(geared.start, f(part(num(cycle.start) * num(by))))
            for moment in MOMENTS:
                self.assertEqual(later.place(moment), cycle.place(f(num(moment) + num(by))))

    def test_returned_numbers_come_back(self):
        cycle = Cycle((10 ** 39, 7), (1, 10 ** 39))
        moment = cycle.turns(cycle.turns((LONG, 13)))
        self.assertGreater(len(str(moment[0])), 80)
        self.assertEqual(cycle.later(moment).place((0, 1)), cycle.place(moment))
        self.assertEqual(cycle.turned(moment).turned(f(-num(moment))), cycle)
        first = cycle.next_at((1, 3), moment)
        self.assertEqual(cycle.place(first), (1, 3))
        self.assertTrue(0 <= num(first) - num(moment) < num(cycle.period))

    def test_the_cycle_itself_stays(self):
        cycle = Cycle((1, 3), (1, 2))
        for change in (cycle.turned, cycle.geared, cycle.later):
            change((5, 7))
        self.assertEqual(cycle, Cycle((1, 3), (1, 2)))


class VisitsTest(SkyCase):
    def test_next_at(self):
        for cycle, moment in itertools.product(CYCLES, MOMENTS):
            for place in STARTS + [(1, 7)]:
                answer = cycle.next_at(place, moment)
                if cycle.period is None:
                    self.assertEqual(answer, moment if place == cycle.start else None)
                    continue
                self.assert_fraction(answer)
                self.assertEqual(cycle.place(answer), place)
                self.assertTrue(0 <= num(answer) - num(moment) < num(cycle.period))

    def test_next_at_a_moment_that_fits(self):
        for cycle in CYCLES:
            for moment in MOMENTS:
                self.assertEqual(cycle.next_at(cycle.place(moment), moment), moment)

    def test_visits_in_order(self):
        self.assertEqual(Cycle((-1, 2), (1, 4)).visits((3, 4), Span((0, 1), (5, 1))), [(1, 1), (3, 1), (5, 1)])
        self.assertEqual(Cycle((1, 2)).visits((0, 1), Span((0, 1), (4, 1))), [(0, 1), (2, 1), (4, 1)])
        self.assertEqual(Cycle((1, 2)).visits((0, 1), Span((1, 9), (17, 9))), [])
        self.assertEqual(Cycle((1, 2)).visits((0, 1), Span((2, 1), (2, 1))), [(2, 1)])
        self.assertEqual(Cycle((1, 2)).visits((0, 1), Span((3, 1), (3, 1))), [])
        self.assertEqual(Cycle((1, 2)).visits((0, 1), Span((-4, 1), (-3, 1))), [(-4, 1)])

    def test_visits_seeded(self):
        source = random.Random(3)
        for _ in range(60):
            rate = f(source.choice((-1, 1)) * source.randint(1, 9), source.randint(1, 9))
            cycle = Cycle(rate, f(source.randint(0, 5), 6))
            first = Fraction(source.randint(-30, 30), 4)
            span = Span(f(first), f(first + Fraction(source.randint(0, 60), 4)))
            place = f(source.randint(0, 11), 12)
            expected = []
            moment = cycle.next_at(place, span.first)
            while num(moment) <= num(span.last):
                expected.append(moment)
                moment = f(num(moment) + num(cycle.period))
            self.assertEqual(cycle.visits(place, span), expected)

    def test_still_cycles(self):
        still = Cycle((0, 1), (1, 3))
        for last in ((0, 1), (7, 1), (10 ** 39, 1)):
            span = Span((0, 1), last)
            self.assert_endless(still.visits, (1, 3), span)
            self.assertEqual(still.visits((1, 4), span), [])
        self.assertEqual(still.next_at((1, 3), (-5, 7)), (-5, 7))
        self.assertIsNone(still.next_at((0, 1), (-5, 7)))

    def test_many_visits(self):
        cycle = Cycle((1, 2))
        self.assertEqual(len(cycle.visits((0, 1), Span((0, 1), (798, 1)))), 400)
        self.assertEqual(len(cycle.visits((0, 1), Span((0, 1), (1599, 2)))), 400)
        self.assert_many(400, cycle.visits, (0, 1), Span((0, 1), (800, 1)))
        self.assert_many(400, cycle.visits, (0, 1), Span((0, 1), (2 * 10 ** 30, 1)))
        self.assert_many(400, Cycle((-(10 ** 39), 1)).visits, (1, 2), Span((0, 1), (1, 1)))

    def test_forms_go_ahead_of_endless(self):
        still = Cycle((0, 1))
        for value in not_places():
            self.assert_bad("place", still.visits, value, None)
            self.assert_bad("place", still.visits, value, Span((0, 1), (1, 1)))
            self.assert_bad("place", still.next_at, value, (0, 1))
            self.assert_bad("place", Cycle((1, 1)).next_at, value, None)
        for value in [None, ((0, 1), (1, 1)), [], True, "x"] + objects()[1:]:
            self.assert_bad("span", still.visits, (0, 1), value)
            self.assert_bad("span", Cycle((1, 1)).visits, (0, 1), value)
        for value in not_fractions():
            self.assert_bad("moment", still.next_at, (0, 1), value)
            self.assert_bad("moment", Cycle((1, 1)).next_at, (0, 1), value)

    def test_told_lists_are_new(self):
        cycle, span = Cycle((1, 2)), Span((0, 1), (3, 1))
        cycle.visits((0, 1), span).append(None)
        self.assertEqual(cycle.visits((0, 1), span), [(0, 1), (2, 1)])
