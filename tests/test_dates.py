"""Tests of calendars [2] [4] [5] [6] [10] [44] [45] [46]."""

import itertools
import math
import random
from fractions import Fraction

from tests.helpers import SkyCase, f, not_fractions, not_integers, num, objects, objects_but
from tests.test_leaps import not_words, slow_word
from wheelsky.dates import Calendar, TwinCalendar, calendar_error

LONG = int("9" * 40)
LONGER = int("8" * 80)
FAR = [0, 1, -1, 7, -7, 10 ** 39, -(10 ** 39), LONG, -LONG, LONGER, -LONGER, 7 ** 3000, -7 ** 3000]
SMALL = Calendar((0, 0, 1), short=2)
# The months have 29 or 30 days, the years 12 or 13 months.
MONTHS = Calendar((0, 1), short=29)
YEARS = Calendar(slow_word(7, 19, 3), short=12)
TWIN = TwinCalendar(MONTHS, YEARS)
LITTLE = TwinCalendar(Calendar((0, 1), short=2), Calendar((0, 0, 1), short=2))
LONGEST = Calendar(slow_word(37, 100, 55), short=1000)
CALENDARS = [SMALL, MONTHS, YEARS, LONGEST]
CALENDARS += [Calendar((1,), short=1), Calendar((0,), short=1), Calendar((0, 1, 1), short=1)]
NOT_COUNTS = not_integers() + [-1, -(10 ** 39)]


def days_by_counting(calendar, years):
    """Return a dict with (year, at) for the days of the years -years to years - 1, counted one by one."""
    dates = {}
    for first, step, order in ((0, 1, range(years)), (-1, -1, range(-1, -years - 1, -1))):
        day = first
        for year in order:
            many = calendar.short + calendar.word[year % len(calendar.word)]
            ats = range(many) if step > 0 else range(many - 1, -1, -1)
            for at in ats:
                dates[day] = (year, at)
                day += step
    return dates


class CalendarTest(SkyCase):
    def test_example(self):
        self.assertEqual((SMALL.mean, SMALL.date_of(6), SMALL.date_of(-1)), ((7, 3), (2, 2), (-1, 2)))
        self.assertEqual((SMALL.day_of(3, 1), SMALL.first_day(-1)), (8, -3))

    def test_attributes(self):
        for word, short in (((1,), 1), ((0,), 1000), (slow_word(37, 100, 0), 365), ((1,) * 100, 1000)):
            calendar = Calendar(word, short=short)
            self.assertEqual((calendar.word, calendar.short), (word, short))
            self.assertEqual(calendar.mean, f(short + Fraction(sum(word), len(word))))
            self.assert_fraction(calendar.mean)

    def test_counting(self):
        for calendar in CALENDARS:
            dates = days_by_counting(calendar, 7 if calendar is LONGEST else 40)
            for day, date in dates.items():
                self.assertEqual(calendar.date_of(day), date)
                self.assertEqual(calendar.day_of(*date), day)
                if date[1] == 0:
                    self.assertEqual(calendar.first_day(date[0]), day)
            for year in {year for year, _ in dates.values()}:
                many = sum(row[0] == year for row in dates.values())
                self.assertEqual(calendar.year_days(year), many)

    def test_words_need_not_be_even(self):
        calendar = Calendar((1, 1, 1, 0, 0, 0, 0), short=3)
        for day, date in days_by_counting(calendar, 30).items():
            self.assertEqual((calendar.date_of(day), calendar.day_of(*date)), (date, day))

    def test_far_days_and_years(self):
        for calendar in CALENDARS:
            for far in FAR:
                year, at = calendar.date_of(far)
                self.assertTrue(0 <= at < calendar.year_days(year))
                self.assertEqual(calendar.first_day(year) + at, far)
                self.assertEqual(calendar.day_of(year, at), far)
                self.assertEqual(calendar.first_day(far + 1) - calendar.first_day(far), calendar.year_days(far))
                self.assertEqual(calendar.date_of(calendar.first_day(far)), (far, 0))
                last = calendar.year_days(far) - 1
                self.assertEqual(calendar.date_of(calendar.day_of(far, last)), (far, last))
                self.assertEqual(calendar.day_of(far, last) + 1, calendar.first_day(far + 1))

    def test_days_that_the_year_does_not_have(self):
        self.assertEqual((SMALL.year_days(0), SMALL.year_days(2), SMALL.year_days(-1)), (2, 3, 3))
        for year, at in ((0, 2), (1, 2), (2, 3), (-1, 3), (-2, 2), (10 ** 39, 3), (0, 10 ** 39)):
            self.assert_mismatch(SMALL.day_of, year, at)
        for at in NOT_COUNTS:
            self.assert_bad("at", SMALL.day_of, 0, at)

    def test_forms(self):
        for word in not_words():
            self.assert_bad("word", Calendar, word, short=None)
        for short in not_integers() + [0, -1, 1001, 10 ** 39]:
            self.assert_bad("short", Calendar, (0, 1), short=short)
        for number in not_integers():
            for calendar in (SMALL, TWIN):
                self.assert_bad("year", calendar.year_days, number)
                self.assert_bad("year", calendar.first_day, number)
                self.assert_bad("day", calendar.date_of, number)
            self.assert_bad("year", SMALL.day_of, number, None)
            self.assert_bad("year", TWIN.day_of, number, None, None)
            self.assert_bad("year", TWIN.month_count, number)
            self.assert_bad("year", TWIN.first_month, number)

    def test_equality(self):
        self.assert_true(SMALL == Calendar((0, 0, 1), short=2))
        self.assert_false(SMALL != Calendar((0, 0, 1), short=2))
        others = [Calendar((0, 1, 0), short=2), Calendar((0, 0, 1), short=3), Calendar((0, 0, 1, 0, 0, 1), short=2)]
        for other in others + [LITTLE, None, True, 0, "x", (0, 0, 1), ((0, 0, 1), 2), []] + objects():
            self.assert_false(SMALL == other)
            self.assert_true(SMALL != other)

    def test_first_days_follow_the_mean(self):
        for longs, length in itertools.chain(((0, 1), (1, 1), (37, 100), (97, 100), (8, 33)),
                                             itertools.product((1, 2, 3), (5, 7))):
            for short in (1, 29, 365):
                calendar = Calendar(slow_word(longs, length, 0), short=short)
                for year in list(range(-110, 111)) + FAR:
                    self.assertEqual(calendar.first_day(year), math.floor(year * num(calendar.mean)))


class TwinTest(SkyCase):
    def test_example(self):
        self.assertEqual((LITTLE.date_of(13), LITTLE.day_of(2, 2, 0)), ((2, 1, 1), 15))
        self.assertEqual((LITTLE.year_days(2), LITTLE.first_day(-1)), (7, -8))

    def test_attributes(self):
        self.assertEqual((TWIN.months, TWIN.years), (MONTHS, YEARS))
        self.assertFalse(isinstance(TWIN, Calendar))

    def test_counting(self):
        for twin in (LITTLE, TWIN, TwinCalendar(SMALL, Calendar((1, 0, 0, 1), short=3))):
            months = days_by_counting(twin.years, 8)
            days = days_by_counting(twin.months, 8 * twin.years.short)
            firsts = {}
            counts = {}
            for day, (number, at) in days.items():
                year, month = months[number]
                self.assertEqual(twin.date_of(day), (year, month, at))
                self.assertEqual(twin.day_of(year, month, at), day)
                firsts.setdefault(year, []).append(day)
                counts.setdefault(year, set()).add(month)
            for year in firsts:
                if min(firsts) < year < max(firsts):
                    self.assertEqual(twin.year_days(year), len(firsts[year]))
                    self.assertEqual(twin.first_day(year), min(firsts[year]))
                    self.assertEqual(twin.month_count(year), len(counts[year]))
                    self.assertEqual(months[twin.first_month(year)], (year, 0))

    def test_far_days_and_years(self):
        for twin in (LITTLE, TWIN):
            for far in FAR:
                year, month, at = twin.date_of(far)
                self.assertTrue(0 <= month < twin.month_count(year) and at >= 0)
                self.assertEqual(twin.day_of(year, month, at), far)
                self.assertEqual(twin.date_of(twin.first_day(far)), (far, 0, 0))
                self.assertEqual(twin.first_day(far + 1) - twin.first_day(far), twin.year_days(far))
                self.assertEqual(twin.first_month(far + 1) - twin.first_month(far), twin.month_count(far))
                self.assertEqual(twin.date_of(twin.first_day(far) - 1)[:2], (far - 1, twin.month_count(far - 1) - 1))

    def test_months_and_days_that_are_not(self):
        # The year 2 has 3 months, of 2, 3 and 2 days.
        self.assertEqual([LITTLE.month_count(year) for year in (0, 1, 2, -1)], [2, 2, 3, 3])
        self.assertEqual([LITTLE.day_of(2, month, 1) - LITTLE.day_of(2, month, 0) for month in range(3)], [1, 1, 1])
        self.assertEqual(LITTLE.day_of(2, 1, 2), 14)
        for year, month, at in ((0, 2, 0), (2, 3, 0), (-1, 3, 0), (2, 0, 2), (2, 1, 3), (2, 2, 2), (0, 0, 10 ** 39),
                                (0, 10 ** 39, 0), (10 ** 39, 3, 5), (0, 2, 2)):
            self.assert_mismatch(LITTLE.day_of, year, month, at)
        for wrong in NOT_COUNTS:
            self.assert_bad("month", LITTLE.day_of, 0, wrong, None)
            self.assert_bad("at", LITTLE.day_of, 0, 2, wrong)
            self.assert_bad("at", LITTLE.day_of, 0, 0, wrong)

    def test_forms(self):
        for thing in objects_but(Calendar) + [None, (0, 1), ((0, 1), 29), True, 1]:
            self.assert_bad("months", TwinCalendar, thing, None)
            self.assert_bad("years", TwinCalendar, MONTHS, thing)
        self.assert_bad("months", TwinCalendar, TWIN, TWIN)
        self.assert_bad("years", TwinCalendar, MONTHS, TWIN)

    def test_equality(self):
        self.assert_true(TWIN == TwinCalendar(MONTHS, Calendar(slow_word(7, 19, 3), short=12)))
        self.assert_false(TWIN != TwinCalendar(MONTHS, YEARS))
        others = [TwinCalendar(YEARS, MONTHS), TwinCalendar(MONTHS, MONTHS), TwinCalendar(YEARS, YEARS), LITTLE]
        for other in others + [MONTHS, YEARS, None, True, 0, "x", (MONTHS, YEARS), []] + objects():
            self.assert_false(TWIN == other)
            self.assert_true(TWIN != other)


class CalendarErrorTest(SkyCase):
    def check(self, calendar, mean, years):
        """Check the answer against all years, and return it."""
        answer = calendar_error(calendar, mean=mean, years=years)
        errors = [abs(calendar.first_day(year) - year * num(mean)) for year in range(years + 1)]
        self.assertEqual(answer, (f(max(errors)), errors.index(max(errors))))
        self.assert_fraction(answer[0])
        return answer

    def test_no_years(self):
        for calendar in CALENDARS + [TWIN, LITTLE]:
            for mean in ((0, 1), (-7, 3), (10 ** 39, 7)):
                self.assertEqual(self.check(calendar, mean, 0), ((0, 1), 0))

    def test_the_least_year_of_several(self):
        even = Calendar((0,), short=10)
        self.assertEqual(self.check(even, (10, 1), 400), ((0, 1), 0))
        # The error is 1/2 in each odd year.
        self.assertEqual(self.check(Calendar((0, 1), short=10), (21, 2), 400), ((1, 2), 1))
        self.assertEqual(self.check(SMALL, SMALL.mean, 400), ((2, 3), 2))

    def test_seeded(self):
        source = random.Random(1)
        for calendar in CALENDARS + [TWIN, LITTLE]:
            for digits in (1, 3, 39):
                mean = f(source.randint(-10 ** digits, 10 ** digits), source.randint(1, 10 ** digits))
                self.check(calendar, mean, source.choice((1, 2, 19, 100)))

    def test_four_hundred_years(self):
        self.check(TWIN, (487, 16), 400)
        self.assertEqual(self.check(Calendar((0,), short=1), (0, 1), 400), ((400, 1), 400))
        self.assertEqual(self.check(Calendar((0,), short=1), (-3, 2), 400), ((1000, 1), 400))
        twin = TwinCalendar(Calendar((0,), short=3), Calendar((0,), short=2))
        self.assertEqual(self.check(twin, (6, 1), 400), ((0, 1), 0))

    def test_forms(self):
        for thing in objects_but((Calendar, TwinCalendar)) + [None, (0, 1), True]:
            self.assert_bad("calendar", calendar_error, thing, mean=None, years=None)
        for mean in not_fractions():
            self.assert_bad("mean", calendar_error, SMALL, mean=mean, years=None)
            self.assert_bad("mean", calendar_error, TWIN, mean=mean, years=401)
        for years in not_integers() + [-1, 401, 10 ** 39]:
            self.assert_bad("years", calendar_error, SMALL, mean=(1, 2), years=years)
            self.assert_bad("years", calendar_error, TWIN, mean=(1, 2), years=years)
