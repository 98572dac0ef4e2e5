"""Tests that lead through the files of several stages."""

import math
import random
from fractions import Fraction

from tests.helpers import SkyCase, f, num
from tests.test_approx import seeded_values
from tests.test_darkening import seeded_shades
from tests.test_leaps import slow_error, slow_word
from tests.test_plans import seeded_plans
from tests.test_shafts import seeded_works
from wheelsky.approx import convergents, is_nearest_paper, nearest, nearest_paper
from wheelsky.cycles import Cycle
from wheelsky.darkening import Shade, next_dark, roll
from wheelsky.dates import Calendar, TwinCalendar, calendar_error
from wheelsky.drift import error_paper, good_until, greatest_error, paper_error
from wheelsky.faults import find_fault, mended
from wheelsky.leaps import best_word, leap_rule, leap_word, word_error
from wheelsky.meetings import meeting_witness, meetings
from wheelsky.motions import Motion, even_motion
from wheelsky.nearness import is_near, near_spans
from wheelsky.series import best_returns, is_series, series_of
from wheelsky.shafts import Work
from wheelsky.slots import Slot
from wheelsky.spans import Span
from wheelsky.tables import continued, cycle_table, degree_of, heads_of, reading, straight_bound, table_of
from wheelsky.trains import fewest_train, splits, teeth_pair, train_ratio


def work_of(train):
    """Return the Work that is built of a train, and the name of its last shaft."""
    wheels, links = [], []
    for number, (driver, driven) in enumerate(train):
        wheels += [(f"a{number}", f"s{number}", driver), (f"b{number}", f"s{number + 1}", driven)]
        links.append(("mesh", f"a{number}", f"b{number}"))
    return Work(wheels, links, driver="s0"), f"s{len(train)}"


class FractionsTest(SkyCase):
    def test_convergents_are_nearest(self):
        """[24] [25]: each convergent but perhaps the first is nearest for its own denominator."""
        checked = 0
        for value in seeded_values(1, 150, 8) + [(0, 1), (1, 2), (-1, 2), (22, 7)]:
            for row in convergents(value)[1:]:
                if row[1] <= 1000000:
                    self.assertEqual(nearest(value, most=row[1]), row)
                    self.assertIn(row, nearest_paper(value, most=row[1]))
                    checked += 1
        self.assertGreater(checked, 400)

    def test_the_first_convergent_may_be_farther(self):
        self.assertEqual((convergents((2, 3))[0], nearest((2, 3), most=1)), ((0, 1), (1, 1)))

    def test_teeth_pairs_without_a_least(self):
        """[25] [30]: with teeth from 1 on, no fraction with such a denominator is nearer."""
        for value in seeded_values(2, 60, 6):
            value = f((1 + num(value) % 1) / 2)
            pair = teeth_pair(value, least=1, most=150)
            self.assertEqual(abs(Fraction(*pair) - num(value)), abs(num(nearest(value, most=150)) - num(value)))


class TrainsTest(SkyCase):
    def test_a_work_has_the_ratio_of_its_train(self):
        """[28] [33]."""
        source = random.Random(3)
        for count in (1, 2, 3, 4, 5, 6):
            for _ in range(8):
                train = [(source.randint(1, 1000), source.randint(1, 1000)) for _ in range(count)]
                work, last = work_of(train)
                self.assertEqual(work.shaft_rate(last), train_ratio(train))
                self.assertEqual(dict(work.ways())[last], (-1) ** count)

    def test_fewest_trains_as_works(self):
        """[28] [29]."""
        for value in ((15, 2), (81, 64), (128, 45), (1000, 999), (9, 8)):
            train = fewest_train(value, least=8, most=100)
            work, last = work_of(train)
            self.assertEqual(abs(num(work.shaft_rate(last))), num(value))
            product = math.prod(driver for driver, _ in train)
            self.assertIn(tuple(driver for driver, _ in train), splits(product, parts=len(train), least=8, most=100))

    def test_no_joints_no_slack(self):
        """[75]."""
        checked = 0
        for work in seeded_works(4, 300):
            links = [link for link in work.links if link[0] == "mesh"]
            meshed = Work(work.wheels, links, driver=work.driver)
            linked = [shaft for shaft in meshed.shafts() if meshed.path(shaft) is not None]
            within = [link for link in links if dict((w, s) for w, s, _ in work.wheels)[link[1]] in linked]
            if len(within) < len(linked):
                for shaft in meshed.shafts():
                    self.assertEqual(meshed.slack_bound(shaft), (0, 1) if shaft in linked else None)
                    checked += shaft in linked
        self.assertGreater(checked, 100)

    def test_a_train_shows_a_cycle(self):
        """[28] [40]: the pointer of a train that is not exact drifts by the difference of the rates."""
        moon = Cycle((30, 13))
        pair = teeth_pair(moon.rate, least=4, most=12)
        pointer = even_motion(Cycle(f(Fraction(*pair))))
        off = abs(Fraction(*pair) - Fraction(30, 13))
        self.assertEqual(greatest_error(pointer, even_motion(moon), Span((0, 1), (3, 1))), (f(3 * off), (3, 1)))
        self.assertEqual(good_until(pointer, even_motion(moon), Span((0, 1), (3, 1)), bound=f(2 * off)), (2, 1))
        self.assertEqual(paper_error(error_paper(pointer, even_motion(moon), Span((0, 1), (99, 1)))),
                         ((1, 2), f(Fraction(1, 2) / off)))

    def test_a_slot_errs_by_its_sway(self):
        """[36] [40]."""
        slot = Slot([((0, 1), (0, 1)), ((1, 3), (1, 10)), ((2, 3), (-1, 5))])
        cycle = Cycle((2, 7), (1, 9))
        pointer = Motion([((1, 1), cycle, slot)])
        error, moment = greatest_error(pointer, even_motion(cycle), Span((0, 1), (7, 1)))
        self.assertEqual((error, cycle.place(moment)), (slot.sway(), (2, 3)))


class CalendarsTest(SkyCase):
    def test_years_follow_the_cycle_of_the_mean(self):
        """[16] [46]."""
        for longs, length in ((8, 33), (97, 100), (7, 19), (0, 1), (1, 1)):
            calendar = Calendar(leap_word(longs, length), short=365)
            cycle = Cycle.with_period(calendar.mean)
            for year in list(range(-70, 71)) + [10 ** 39, -(10 ** 39)]:
                moment = f(year * num(calendar.mean))
                self.assertEqual(cycle.place(moment), (0, 1))
                self.assertEqual(calendar.first_day(year), math.floor(num(moment)))
                self.assertEqual(calendar.date_of(math.floor(num(moment))), (year, 0))

    def test_calendars_err_as_their_words(self):
        """[43] [44] [25]."""
        for value, most in (((1211, 5000), 33), ((1211, 5000), 100), ((7, 19), 19), ((0, 1), 9), ((1, 1), 1)):
            longs, length = leap_rule(value, most=most)
            for word in (leap_word(longs, length), best_word(longs, length)):
                calendar = Calendar(word, short=365)
                error, year = calendar_error(calendar, mean=calendar.mean, years=length)
                self.assertEqual(error, word_error(word))
                self.assertEqual(error, f(slow_error(word)))
                self.assertEqual(abs(calendar.first_day(year) - year * num(calendar.mean)), num(error))
                self.assertEqual(calendar_error(calendar, mean=calendar.mean, years=400)[0], error)

    def test_twins_err_by_both_words(self):
        """[43] [45]."""
        months, years = Calendar(leap_word(26, 49), short=29), Calendar(leap_word(7, 19), short=12)
        mean = f(num(months.mean) * num(years.mean))
        error, year = calendar_error(TwinCalendar(months, years), mean=mean, years=400)
        self.assertLess(num(error), num(months.mean) + 1)
        self.assertEqual(abs(TwinCalendar(months, years).first_day(year) - year * num(mean)), num(error))

    def test_first_days_as_a_table(self):
        """[44] [47]: the first differences of the first days are the lengths of the years."""
        word = slow_word(8, 33, 5)
        calendar = Calendar(word, short=365)
        days = [calendar.first_day(year) for year in range(34)]
        self.assertEqual(tuple(after - day - 365 for day, after in zip(days, days[1:])), word)


class TablesTest(SkyCase):
    def test_a_cycle_continued(self):
        """[16] [48] [49]."""
        for cycle in (Cycle((1, 4), (1, 6)), Cycle((-3, 10 ** 39), (2, 7)), Cycle((0, 1), (1, 2))):
            for day in (0, -7, 10 ** 39):
                unit, values = cycle_table(cycle, day=day, count=10)
                ahead = continued(values, degree=1, count=60)
                back = continued(values, degree=1, count=60, back=True)
                for passed, row in enumerate(back + values + ahead, start=day - 60):
                    self.assertEqual(f(Fraction(row, unit)), cycle.turns((passed, 1)))
                self.assertEqual(back + values, cycle_table(cycle, day=day - 60, count=60)[1] + values)
                at = Fraction(17, 4)
                self.assertEqual(num(reading(values, f(at), degree=1)), unit * num(cycle.turns(f(day + at))))
                self.assertEqual(straight_bound(values, degree=1), (0, 1))

    def test_heads_and_back(self):
        """[47] [48]."""
        values = [k ** 3 - 7 * k + 2 for k in range(20)]
        self.assertEqual(degree_of(values), 3)
        self.assertEqual(table_of(heads_of(values, degree=3), count=20), values)
        self.assertEqual(values[:5] + continued(values[:5], degree=3, count=15), values)
        self.assertEqual(continued(values[15:], degree=3, count=15, back=True) + values[15:], values)

    def test_numbers_come_back(self):
        """[5]: what the program told is taken again."""
        values = table_of([10 ** 39] * 9, count=60)
        more = continued(values, degree=8, count=60)
        self.assertEqual(continued(more, degree=8, count=60, back=True), values)
        value = reading(more, (1, 10 ** 39), degree=8)
        self.assert_true(is_nearest_paper(value, nearest_paper(value, most=9), most=9))


class DarkeningTest(SkyCase):
    def test_a_roll_has_the_meetings(self):
        """[20] [53]."""
        for shade in seeded_shades(8, 50):
            begin = num(shade.interval) * -3
            span = Span(f(begin), f(begin + 11 * num(shade.interval) + 1))
            rows = roll(shade, span) if num(shade.interval) > Fraction(1, 300) else None
            if rows is not None:
                self.assertEqual([row[1] for row in rows], meetings([shade.light, shade.cover], span))
                for _, moment, _, _ in rows:
                    self.assertIsNotNone(meeting_witness([shade.light, shade.cover], moment))

    def test_dark_meetings_are_near(self):
        """[22] [53]: the node is near the light at a dark meeting and far at any other."""
        dark = bright = 0
        for shade in seeded_shades(9, 60):
            span = Span((0, 1), f(num(shade.interval) * 9))
            cycles = [shade.light, shade.node]
            if abs(num(shade.node.rate) - num(shade.light.rate)) * num(span.length) > 150:
                continue
            spans = near_spans(cycles, span, width=shade.width)
            for _, moment, _, is_dark in roll(shade, span):
                self.assertIs(any(moment in row for row in spans), is_dark)
                self.assertIs(is_near(cycles, moment, width=shade.width), is_dark)
                dark, bright = dark + is_dark, bright + (not is_dark)
        self.assertGreater(min(dark, bright), 30)

    def test_best_returns_of_a_convergent(self):
        """[24] [57]."""
        for shade in seeded_shades(10, 60):
            for most in (1, 30, 1000):
                answer = best_returns(shade, most=most)
                self.assertIn(answer, [row[1] for row in convergents(shade.gain)])
                self.assertLessEqual(answer, most)

    def test_series_of_the_best_returns(self):
        """[54] [57]: the better the returns, the longer the series."""
        shade = Shade(Cycle((1, 365)), Cycle((1, 27)), Cycle((-1, 6793)), width=(1, 20))
        lengths = []
        for most in (5, 50, 500):
            returns = best_returns(shade, most=most)
            number = next_dark(shade, 0)
            first, last = series_of(shade, number, returns=returns)
            self.assert_true(is_series(shade, (first, last), returns=returns))
            lengths.append((last - first) // returns)
        self.assertEqual(lengths, sorted(set(lengths)))


class FaultsTest(SkyCase):
    def test_a_mended_table_goes_on_as_the_sound_one(self):
        """[48] [51]."""
        source = random.Random(11)
        for degree in range(9):
            values = [sum(k ** order * (order - 3) for order in range(degree + 1)) for k in range(degree + 20)]
            begin, end = values[:degree + 8], values[degree + 8:]
            row = source.randrange(len(begin))
            wrong = begin[:row] + [begin[row] + source.choice((-5, 1, 10 ** 39))] + begin[row + 1:]
            self.assertEqual(continued(mended(wrong, degree=degree), degree=degree, count=12), end)
            self.assertEqual(continued(mended(begin, degree=degree), degree=degree, count=12), end)

    def test_a_cycle_table_with_a_slip(self):
        """[47] [51]."""
        unit, values = cycle_table(Cycle((7, 12), (1, 5)), day=-4, count=9)
        self.assertEqual(find_fault(values, degree=1), ("sound",))
        for row in range(9):
            slip = values[:row] + [values[row] + unit] + values[row + 1:]
            self.assertEqual(find_fault(slip, degree=1), ("fault", row, values[row]))
            self.assertEqual(mended(slip, degree=1), values)


class PlansTest(SkyCase):
    def test_pointers_without_a_slot(self):
        """[33] [59]: start + rate * pace * moment."""
        checked = 0
        for plan in seeded_plans(12, 80):
            if plan.work.lock_loop() is not None:
                continue
            for name, shaft, start, slot, _ in plan.dials:
                rate = plan.work.shaft_rate(shaft)
                if slot is None and rate is not None:
                    for moment in ((0, 1), (-22, 7), (10 ** 39, 1)):
                        turns = num(start) + num(rate) * num(plan.pace) * num(moment)
                        self.assertEqual(plan.pointer(name).turns(moment), f(turns))
                        checked += 1
        self.assertGreater(checked, 60)
