"""Tests of series and families of dark meetings [4] [5] [6] [7] [24] [54] [55] [56] [57]."""

import random
from fractions import Fraction

from tests.helpers import SkyCase, f, not_integers, num
from tests.test_darkening import DAILY, LONG, NOT_SHADES, NOT_SPANS, offset, slow_offset
from wheelsky.approx import convergents
from wheelsky.cycles import Cycle
from wheelsky.darkening import Shade, dark_numbers, next_dark
from wheelsky.series import (
    best_returns, families, is_series, next_series, series_in, series_members, series_of, shift_of,
)
from wheelsky.spans import Span

NOT_RETURNS = not_integers() + [0, 1001, -1, LONG, -LONG]
WITH_RETURNS = [
    lambda shade, returns: shift_of(shade, returns=returns),
    lambda shade, returns: series_of(shade, 0, returns=returns),
    lambda shade, returns: series_members(shade, 0, returns=returns),
    lambda shade, returns: is_series(shade, None, returns=returns),
    lambda shade, returns: series_in(shade, Span((0, 1), (LONG, 1)), returns=returns),
    lambda shade, returns: families(shade, Span((0, 1), (LONG, 1)), returns=returns),
    lambda shade, returns: next_series(shade, 0, returns=returns),
]


def daily(gain, width, start=Fraction(0)):
    """Return a shade with a meeting each day, whose offset is first `start` and changes by `gain`."""
    return Shade(Cycle((0, 1)), Cycle((1, 1)), Cycle(f(gain), f(start % 1)), width=f(width))


def is_dark(shade, number):
    return abs(slow_offset(shade, number)) <= num(shade.width)


def slow_series(shade, number, returns):
    """Return the series of a meeting as a list, from the meaning, by walking."""
    if not is_dark(shade, number):
        return []
    numbers = [number]
    while is_dark(shade, numbers[0] - returns):
        numbers.insert(0, numbers[0] - returns)
    while is_dark(shade, numbers[-1] + returns):
        numbers.append(numbers[-1] + returns)
    return numbers


def seeded_questions(seed, many):
    """Return pairs (shade, returns) with a shift that is not 0."""
    source = random.Random(seed)
    found = []
    while len(found) < many:
        below = source.choice((7, 30, 97, 300))
        gain = Fraction(source.randint(-3 * below, 3 * below), below)
        width = Fraction(source.randint(0, 24), 100)
        shade = daily(gain, width, Fraction(source.randrange(60), 60))
        if source.random() < 0.5:
            light, cover = Cycle((1, 3), (1, 4)), Cycle((1, 3 + source.randint(1, 9)), (1, 7))
            node = Cycle(f(Fraction(source.randint(-9, 9), below)), f(Fraction(source.randrange(5), 5)))
            shade = Shade(light, cover, node, width=f(width))
        returns = source.choice((1, 2, 3, 7, 19, 223))
        if offset(returns * num(shade.gain)):
            found.append((shade, returns))
    return found


class ShiftTest(SkyCase):
    def test_plain(self):
        self.assertEqual(shift_of(DAILY, returns=3), (-1, 10))
        self.assertEqual(shift_of(DAILY, returns=1), (3, 10))
        self.assertEqual(shift_of(DAILY, returns=10), (0, 1))
        self.assertEqual(shift_of(DAILY, returns=5), (1, 2))
        self.assertEqual(shift_of(daily(Fraction(-3, 10), Fraction(1, 5)), returns=5), (1, 2))
        self.assertEqual(shift_of(daily(Fraction(-3, 10), Fraction(1, 5)), returns=1), (-3, 10))
        self.assertEqual(shift_of(DAILY, returns=1000), (0, 1))
        self.assertEqual(shift_of(DAILY, returns=999), (-3, 10))

    def test_seeded(self):
        for shade, _ in seeded_questions(1, 60):
            for returns in (1, 2, 17, 1000):
                self.assertEqual(shift_of(shade, returns=returns), f(offset(returns * num(shade.gain))))
                self.assert_fraction(shift_of(shade, returns=returns))

    def test_forms(self):
        for call in WITH_RETURNS:
            for shade in NOT_SHADES:
                self.assert_bad("shade", call, shade, 0)
            for returns in NOT_RETURNS:
                self.assert_bad("returns", call, DAILY, returns)
        for number in not_integers():
            for call in (series_of, series_members, next_series):
                self.assert_bad("number", call, DAILY, number, returns=0)
        for span in NOT_SPANS:
            for call in (series_in, families):
                self.assert_bad("span", call, DAILY, span, returns=0)

    def test_endless(self):
        never = daily(Fraction(0), Fraction(1, 5), Fraction(1, 2))
        still = daily(Fraction(2), Fraction(1, 5))
        for call in WITH_RETURNS[1:]:
            # The meeting 0 is not dark, or dark; the shift is 0.
            for shade, returns in ((never, 1), (still, 7), (DAILY, 10), (DAILY, 1000)):
                self.assert_endless(call, shade, returns)
        self.assertEqual(shift_of(DAILY, returns=10), (0, 1))

    def test_bad_values_go_before_endless(self):
        for answer in (None, (0, 0)):
            self.assert_bad("shade", is_series, None, answer, returns=0)
            self.assert_bad("returns", is_series, DAILY, answer, returns=True)
            self.assert_endless(is_series, DAILY, answer, returns=10)
        self.assert_bad("number", series_of, DAILY, None, returns=10)
        self.assert_bad("span", series_in, DAILY, None, returns=10)


class SeriesOfTest(SkyCase):
    def test_plain(self):
        self.assertEqual(series_members(DAILY, 0, returns=3), [-6, -3, 0, 3, 6])
        self.assertEqual(series_of(DAILY, 0, returns=3), (-6, 6))
        self.assertEqual(series_of(DAILY, 6, returns=3), (-6, 6))
        self.assertIsNone(series_of(DAILY, 1, returns=3))
        self.assertEqual(series_members(DAILY, 1, returns=3), [])

    def test_a_shift_of_a_half(self):
        for gain in (Fraction(1, 2), Fraction(-1, 2), Fraction(7, 2)):
            for start in (Fraction(0), Fraction(6, 25), Fraction(-6, 25)):
                shade = daily(gain, Fraction(6, 25), start)
                self.assertEqual(shift_of(shade, returns=1), (1, 2))
                self.assertEqual(series_of(shade, 0, returns=1), (0, 0))
                self.assertEqual(series_members(shade, 4, returns=1), [4])
                self.assertIsNone(series_of(shade, 3, returns=1))

    def test_offsets_that_leave_the_range(self):
        # One shift on, the offset passes 1/2 or -1/2 and comes out at the other side.
        for sign in (1, -1):
            shade = daily(sign * Fraction(45, 100), Fraction(24, 100), sign * Fraction(24, 100))
            self.assertEqual(num(shade.offset(1)), -sign * Fraction(31, 100))
            self.assertEqual(series_of(shade, 0, returns=1), (-1, 0))
            self.assertEqual(slow_series(shade, 0, 1), [-1, 0])

    def test_just_the_width(self):
        shade = daily(Fraction(1, 10), Fraction(1, 5))
        self.assertEqual(series_of(shade, 0, returns=1), (-2, 2))
        tiny = Fraction(1, LONG)
        self.assertEqual(series_of(daily(Fraction(1, 10), Fraction(1, 5) - tiny), 0, returns=1), (-1, 1))
        self.assertEqual(series_of(daily(Fraction(1, 10) + tiny, Fraction(1, 5)), 0, returns=1), (-1, 1))
        self.assertEqual(series_of(daily(Fraction(1, 10), Fraction(0)), 0, returns=1), (0, 0))

    def test_seeded(self):
        dark = 0
        for shade, returns in seeded_questions(2, 120):
            for number in (0, 1, -5, 40):
                expected = slow_series(shade, number, returns)
                self.assertEqual(series_members(shade, number, returns=returns), expected)
                ends = (expected[0], expected[-1]) if expected else None
                self.assertEqual(series_of(shade, number, returns=returns), ends)
                for member in expected:
                    self.assertEqual(series_of(shade, member, returns=returns), ends)
                if ends:
                    dark += 1
                    self.assert_true(is_series(shade, ends, returns=returns))
                    shift = num(shift_of(shade, returns=returns))
                    for step, member in enumerate(expected):
                        self.assertEqual(num(shade.offset(member)), num(shade.offset(ends[0])) + step * shift)
        self.assertGreater(dark, 60)

    def test_400_and_401_numbers(self):
        # With the shift 1/4000, 400 numbers reach over 399/4000.
        shade = daily(Fraction(1, 4000), Fraction(399, 8000), Fraction(1, 8000))
        self.assertEqual(series_of(shade, 0, returns=1), (-200, 199))
        self.assertEqual(series_members(shade, 0, returns=1), list(range(-200, 200)))
        shade = daily(Fraction(-1, 4000), Fraction(200, 4000))
        self.assertEqual(series_of(shade, 0, returns=1), (-200, 200))
        self.assert_many(400, series_members, shade, 0, returns=1)
        self.assertEqual(series_members(shade, 3, returns=2), list(range(-199, 201, 2)))
        self.assertEqual(series_members(shade, 300, returns=1), [])

    def test_series_of_very_many_numbers(self):
        tiny = Fraction(1, 10 ** 30)
        for sign in (1, -1):
            shade = daily(sign * tiny, Fraction(1, 5))
            many = 2 * 10 ** 29
            self.assertEqual(series_of(shade, 0, returns=1), (-many, many))
            self.assertEqual(series_of(shade, many, returns=1), (-many, many))
            self.assertIsNone(series_of(shade, many + 1, returns=1))
            self.assertEqual(series_of(shade, 1, returns=2), (-many + 1, many - 1))
            self.assert_many(400, series_members, shade, 0, returns=1)
            self.assertEqual(series_members(shade, many + 1, returns=1), [])
            self.assert_true(is_series(shade, (-many, many), returns=1))
            self.assert_false(is_series(shade, (-many, many - 1), returns=1))

    def test_lists_are_new(self):
        series_members(DAILY, 0, returns=3).clear()
        self.assertEqual(series_members(DAILY, 0, returns=3), [-6, -3, 0, 3, 6])
        series_members(DAILY, 1, returns=3).append(1)
        self.assertEqual(series_members(DAILY, 1, returns=3), [])


class IsSeriesTest(SkyCase):
    def judge(self, answer):
        return is_series(DAILY, answer, returns=3)

    def test_one_thing_changed(self):
        self.assert_true(self.judge((-6, 6)))
        for answer in ((-9, 6), (-3, 6), (-6, 3), (-6, 9), (-6, 7), (-7, 6), (6, -6), (-5, 5), (0, 0), (-6, -6), (6, 6),
                       (1, 1), (-6,), (-6, 0, 6), [-6, 6], ((-6, 6),), (-6, 6.0), ("-6", 6), (None, 6), (-6, None)):
            self.assert_false(self.judge(answer))

    def test_two_series_in_one(self):
        after = next_series(DAILY, 0, returns=3)
        self.assertEqual(after, (24, 36))
        self.assert_true(self.judge((24, 36)))
        self.assert_false(self.judge((-6, 36)))
        # The offsets of both ends are the same ones, but a whole turn lies between them.
        shade = daily(Fraction(1, 10), Fraction(1, 10))
        self.assert_true(is_series(shade, (-1, 1), returns=1))
        self.assert_true(is_series(shade, (9, 11), returns=1))
        self.assert_false(is_series(shade, (-1, 11), returns=1))

    def test_not_a_multiple_apart(self):
        # All is well with these two but that they are of two families.
        shade = daily(Fraction(1, 3), Fraction(0))
        self.assert_true(is_series(shade, (0, 0), returns=5))
        self.assert_true(is_series(shade, (3, 3), returns=5))
        for answer in ((0, 3), (3, 0), (0, 9), (-3, 0), (0, -6)):
            self.assert_false(is_series(shade, answer, returns=5))

    def test_true_and_false(self):
        shade = daily(Fraction(3, 10), Fraction(0))
        self.assert_true(is_series(shade, (0, 0), returns=1))
        for answer in ((False, 0), (0, False), (False, False)):
            self.assert_false(is_series(shade, answer, returns=1))
        shade = daily(Fraction(3, 10), Fraction(0), Fraction(-3, 10))
        self.assert_true(is_series(shade, (1, 1), returns=1))
        for answer in ((True, 1), (1, True), (True, True)):
            self.assert_false(is_series(shade, answer, returns=1))

    def test_seeded(self):
        for shade, returns in seeded_questions(3, 60):
            numbers = range(-25, 26)
            right = {(row[0], row[-1]) for row in (slow_series(shade, number, returns) for number in numbers) if row}
            for ends in right:
                self.assert_true(is_series(shade, ends, returns=returns))
            for first in numbers:
                for last in (first, first + returns, first + 2 * returns, first + 1):
                    self.assertIs(is_series(shade, (first, last), returns=returns), (first, last) in right)

    def test_values_of_every_kind(self):
        self.assert_judges_all(self.judge)


class SeriesInTest(SkyCase):
    def test_plain(self):
        # Dark are 0, 3, 4, 6, 7 and what is a multiple of 10 away from them.
        rows = series_in(DAILY, Span((0, 1), (10, 1)), returns=3)
        self.assertEqual(rows, [(-6, 6, [0, 3, 6]), (4, 16, [4, 7, 10])])
        self.assertEqual(families(DAILY, Span((0, 1), (10, 1)), returns=3), [(0, [(-6, 6)]), (1, [(4, 16)])])

    def test_nothing(self):
        for call in (series_in, families):
            self.assertEqual(call(DAILY, Span((1, 3), (2, 3)), returns=3), [])
            self.assertEqual(call(DAILY, Span((1, 1), (5, 2)), returns=3), [])
            self.assertEqual(call(DAILY, Span((1, 1), (1, 1)), returns=3), [])

    def test_begins_before_and_ends_behind(self):
        self.assertEqual(series_in(DAILY, Span((0, 1), (0, 1)), returns=3), [(-6, 6, [0])])
        self.assertEqual(families(DAILY, Span((0, 1), (0, 1)), returns=3), [(0, [(-6, 6)])])

    def test_remainders_below_zero(self):
        rows = families(DAILY, Span((-30, 1), (-1, 1)), returns=4)
        self.assertEqual([row[0] for row in rows], sorted({row[0] for row in rows}))
        for remainder, series in rows:
            self.assertTrue(0 <= remainder < 4)
            for first, last in series:
                self.assertEqual((first % 4, last % 4), (remainder, remainder))

    def test_seeded(self):
        source = random.Random(4)
        several = 0
        for shade, returns in seeded_questions(4, 80):
            begin = source.choice((0, -20, 5, -300)) * num(shade.interval)
            span = Span(f(begin), f(begin + source.choice((5, 40, 90)) * num(shade.interval)))
            found = {}
            for number in dark_numbers(shade, span):
                row = slow_series(shade, number, returns)
                found.setdefault((row[0], row[-1]), []).append(number)
            expected = [(first, last, found[first, last]) for first, last in sorted(found)]
            self.assertEqual(series_in(shade, span, returns=returns), expected)
            by_remainder = {}
            for first, last, _ in expected:
                by_remainder.setdefault(first % returns, []).append((first, last))
            self.assertEqual(families(shade, span, returns=returns), sorted(by_remainder.items()))
            several += any(len(row) > 1 for row in by_remainder.values())
        self.assertGreater(several, 10)

    def test_400_and_401_meetings(self):
        for call in (series_in, families):
            self.assertGreater(len(call(DAILY, Span((1, 1), (400, 1)), returns=3)), 1)
            self.assert_many(400, call, DAILY, Span((1, 1), (401, 1)), returns=3)
            self.assert_many(400, call, DAILY, Span((0, 1), (LONG, 1)), returns=3)
            # Endless goes before TooMany.
            self.assert_endless(call, DAILY, Span((0, 1), (LONG, 1)), returns=10)

    def test_lists_are_new(self):
        span = Span((0, 1), (10, 1))
        rows = series_in(DAILY, span, returns=3)
        for row in rows:
            row[2].clear()
        rows.clear()
        self.assertEqual(series_in(DAILY, span, returns=3)[1], (4, 16, [4, 7, 10]))
        rows = families(DAILY, span, returns=3)
        rows[0][1].clear()
        rows.clear()
        self.assertEqual(families(DAILY, span, returns=3), [(0, [(-6, 6)]), (1, [(4, 16)])])


class NextSeriesTest(SkyCase):
    def test_plain(self):
        self.assertEqual(next_series(DAILY, 0, returns=3), (24, 36))
        self.assertEqual(next_series(DAILY, 6, returns=3), (24, 36))
        self.assertIsNone(next_series(DAILY, 1, returns=3))

    def test_just_twice_the_width(self):
        for sign in (1, -1):
            shade = daily(sign * Fraction(1, 5), Fraction(1, 10), sign * Fraction(-1, 10))
            self.assertEqual(series_of(shade, 0, returns=1), (0, 1))
            self.assertEqual(next_series(shade, 0, returns=1), (5, 6))
            above = daily(sign * (Fraction(1, 5) + Fraction(1, LONG)), Fraction(1, 10))
            self.assert_mismatch(next_series, above, 0, returns=1)
            below = daily(sign * (Fraction(1, 5) - Fraction(1, LONG)), Fraction(1, 10))
            self.assertEqual(next_series(below, 0, returns=1), (5, 5))

    def test_seeded(self):
        checked = 0
        for shade, returns in seeded_questions(5, 250):
            if abs(num(shift_of(shade, returns=returns))) > 2 * num(shade.width):
                for number in (0, 1):
                    self.assert_mismatch(next_series, shade, number, returns=returns)
                continue
            for number in (0, 3, -11):
                row = slow_series(shade, number, returns)
                expected = None
                if row:
                    first = row[-1] + returns
                    while not is_dark(shade, first):
                        first += returns
                    after = slow_series(shade, first, returns)
                    expected = (after[0], after[-1])
                    self.assertEqual(after[0], first)
                    checked += 1
                self.assertEqual(next_series(shade, number, returns=returns), expected)
        self.assertGreater(checked, 60)

    def test_far_away(self):
        tiny = 10 ** 30
        for sign in (1, -1):
            shade = daily(sign * Fraction(1, tiny), Fraction(1, 5))
            many = tiny // 5
            self.assertEqual(series_of(shade, 0, returns=1), (-many, many))
            self.assertEqual(next_series(shade, 0, returns=1), (tiny - many, tiny + many))
            self.assertIsNone(next_series(shade, many + 1, returns=1))

    def test_errors_for_meetings_that_are_not_dark(self):
        shade = daily(Fraction(1, 3), Fraction(1, 10), Fraction(1, 2))
        self.assertIsNone(series_of(shade, 0, returns=1))
        self.assert_mismatch(next_series, shade, 0, returns=1)
        self.assert_endless(next_series, shade, 0, returns=3)
        self.assert_endless(next_series, daily(Fraction(0), Fraction(0)), 0, returns=1)
        self.assert_bad("number", next_series, shade, 1.0, returns=1)


class BestReturnsTest(SkyCase):
    def test_plain(self):
        self.assertEqual([best_returns(DAILY, most=most) for most in range(1, 12)], [1, 1] + [3] * 7 + [10, 10])
        self.assertEqual(best_returns(DAILY, most=1000), 10)

    def test_integers(self):
        for gain in (0, 1, -3, LONG):
            self.assertEqual(best_returns(daily(Fraction(gain), Fraction(0)), most=1000), 1)

    def test_the_least_of_several(self):
        # The shifts of 1/3 and 2/3 are 1/3 and -1/3, those of 2/5 and 3/5 are 2/5 and -2/5.
        self.assertEqual(best_returns(daily(Fraction(1, 3), Fraction(0)), most=2), 1)
        self.assertEqual(best_returns(daily(Fraction(-1, 3), Fraction(0)), most=2), 1)
        self.assertEqual(best_returns(daily(Fraction(2, 5), Fraction(0)), most=4), 2)
        self.assertEqual(best_returns(daily(Fraction(3, 5), Fraction(0)), most=3), 2)
        self.assertEqual(best_returns(daily(Fraction(1, 7), Fraction(0)), most=1000), 7)

    def test_seeded(self):
        source = random.Random(6)
        for _ in range(60):
            gain = Fraction(source.randint(-LONG, LONG), source.choice((12, 1001, 12345, LONG)))
            shade = daily(gain, Fraction(0))
            dividers = [row[1] for row in convergents(shade.gain)]
            for most in (1, 7, 60, 1000):
                shifts = [abs(offset(returns * gain)) for returns in range(1, most + 1)]
                answer = best_returns(shade, most=most)
                self.assertEqual(answer, shifts.index(min(shifts)) + 1)
                self.assertIn(answer, dividers)

    def test_forms(self):
        for shade in NOT_SHADES:
            self.assert_bad("shade", best_returns, shade, most=0)
        for most in NOT_RETURNS:
            self.assert_bad("most", best_returns, DAILY, most=most)


class AcrossTest(SkyCase):
    def test_a_dark_meeting_begins_each_series(self):
        """[53] [54]: what next_dark finds is on a series that series_in tells."""
        for shade, returns in seeded_questions(7, 40):
            number = next_dark(shade, 0, within=60)
            if number is None:
                continue
            moment = shade.moment_of(number)
            rows = series_in(shade, Span(moment, moment), returns=returns)
            self.assertEqual(rows, [series_of(shade, number, returns=returns) + ([number],)])
