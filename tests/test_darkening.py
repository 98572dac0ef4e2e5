"""Tests of shades and their meetings [2] [4] [5] [6] [10] [11] [16] [20] [52] [53]."""

import math
import random
from fractions import Fraction

from tests.helpers import SkyCase, f, not_fractions, not_integers, num, objects_but
from wheelsky.cycles import Cycle
from wheelsky.darkening import Shade, dark_numbers, next_dark, roll
from wheelsky.errors import Still
from wheelsky.spans import Span

LONG = 10 ** 39
LIGHT, COVER, NODE = Cycle((0, 1)), Cycle((1, 3), (2, 3)), Cycle((1, 10))
SHADE = Shade(LIGHT, COVER, NODE, width=(1, 5))
# A meeting each day; the offset of the meeting k is that of 3k/10.
DAILY = Shade(Cycle((0, 1)), Cycle((1, 1)), Cycle((3, 10)), width=(1, 5))
NOT_CYCLES = [None, True, 1, (0, 1), ((0, 1), (0, 1)), [], "light"] + objects_but(Cycle)
NOT_SHADES = [None, True, 1, (), [], "shade", (LIGHT, COVER, NODE)] + objects_but(Shade)
NOT_SPANS = [None, True, 1, ((0, 1), (1, 1)), []] + objects_but(Span)


def offset(value):
    """Return the offset of a number, from the meaning."""
    rest = value - math.floor(value)
    return rest - 1 if rest > Fraction(1, 2) else rest


def seeded_shades(seed, many):
    """Return shades of every kind, and moments near which to look."""
    source = random.Random(seed)
    found = []
    while len(found) < many:
        top, below = source.choice(((5, 7), (40, 30), (LONG, LONG)))
        rates = [Fraction(source.randint(-top, top), source.randint(1, below)) for _ in range(3)]
        starts = [Fraction(source.randrange(below), below) for _ in range(3)]
        if rates[0] != rates[1]:
            cycles = [Cycle(f(rate), f(start)) for rate, start in zip(rates, starts)]
            width = f(source.choice((0, Fraction(1, 20), Fraction(1, 8), Fraction(6, 25))))
            found.append(Shade(*cycles, width=width))
    return found


def first_of(shade):
    """Return the moment of the meeting 0, from the meaning."""
    rate = num(shade.light.rate) - num(shade.cover.rate)
    apart = num(shade.light.start) - num(shade.cover.start)
    # The turns apart + rate * m are an integer at a meeting.
    turns = math.ceil(apart) if rate > 0 else math.floor(apart)
    return (turns - apart) / rate


def slow_offset(shade, number):
    """Return the offset of a meeting, from the meaning."""
    moment = first_of(shade) + number * num(shade.interval)
    node = num(shade.node.start) + num(shade.node.rate) * moment
    light = num(shade.light.start) + num(shade.light.rate) * moment
    return offset((node - math.floor(node)) - (light - math.floor(light)))


class ShadeTest(SkyCase):
    def test_attributes(self):
        light, cover, node = Cycle((1, 7), (1, 2)), Cycle((1, 3)), Cycle((-1, 9))
        shade = Shade(light, cover, node, width=(6, 25))
        self.assertIs(shade.light, light)
        self.assertIs(shade.cover, cover)
        self.assertIs(shade.node, node)
        self.assertEqual(shade.width, (6, 25))
        self.assertEqual((SHADE.interval, SHADE.gain), ((3, 1), (3, 10)))

    def test_interval_and_gain(self):
        # The cover is quicker, slower, and goes the other way.
        for light, cover, node in (((0, 1), (1, 3), (1, 10)), ((1, 3), (0, 1), (1, 10)), ((1, 2), (-1, 2), (-7, 3)),
                                   ((-5, 1), (-9, 2), (0, 1)), ((1, LONG), (-1, LONG), (1, 1))):
            shade = Shade(Cycle(light), Cycle(cover), Cycle(node), width=(0, 1))
            interval = 1 / abs(num(cover) - num(light))
            self.assertEqual(shade.interval, f(interval))
            self.assertEqual(shade.gain, f(interval * (num(node) - num(light))))
            self.assert_fraction(shade.interval)
            self.assert_fraction(shade.gain)
        for shade in seeded_shades(1, 60):
            interval = 1 / abs(num(shade.cover.rate) - num(shade.light.rate))
            self.assertEqual(shade.interval, f(interval))
            self.assertEqual(shade.gain, f(interval * (num(shade.node.rate) - num(shade.light.rate))))

    def test_widths(self):
        for width in ((0, 1), (1, 5), f(Fraction(1, 4) - Fraction(1, LONG)), (24, 97), (1, LONG)):
            self.assertEqual(Shade(LIGHT, COVER, NODE, width=width).width, width)
        wrong = [(1, 4), (-1, LONG), (-1, 5), (1, 3), (1, 1), (1, 2), f(Fraction(1, 4) + Fraction(1, LONG))]
        for width in wrong + not_fractions():
            self.assert_bad("width", Shade, LIGHT, COVER, NODE, width=width)

    def test_still(self):
        for start in ((0, 1), (1, 2)):
            same = Cycle(COVER.rate, start)
            self.assert_error(Still, {}, Shade, COVER, same, NODE, width=(1, 5))
            self.assert_error(Still, {}, Shade, Cycle((0, 1)), Cycle((0, 1), start), NODE, width=(0, 1))
        self.assertEqual(Shade(LIGHT, COVER, LIGHT, width=(0, 1)).gain, (0, 1))
        self.assertEqual(Shade(LIGHT, COVER, COVER, width=(0, 1)).gain, (1, 1))

    def test_forms_in_order(self):
        for wrong in NOT_CYCLES:
            self.assert_bad("light", Shade, wrong, wrong, wrong, width=wrong)
            self.assert_bad("cover", Shade, COVER, wrong, wrong, width=wrong)
            self.assert_bad("node", Shade, COVER, COVER, wrong, width=wrong)
        self.assert_bad("width", Shade, COVER, COVER, NODE, width=(1, 4))
        self.assert_error(Still, {}, Shade, COVER, COVER, NODE, width=(0, 1))

    def test_width_is_passed_by_name(self):
        with self.assertRaises(TypeError):
            Shade(LIGHT, COVER, NODE, (1, 5))
        with self.assertRaises(TypeError):
            Shade(LIGHT, COVER, NODE)

    def test_never_equal_to_other_kinds(self):
        for other in (None, 1, (), "shade", LIGHT, [SHADE]):
            self.assert_false(SHADE == other)
            self.assert_true(SHADE != other)


class MeetingsTest(SkyCase):
    def test_example(self):
        self.assertEqual([SHADE.moment_of(number) for number in (-1, 0, 1, 2)], [(-2, 1), (1, 1), (4, 1), (7, 1)])
        self.assertEqual([SHADE.offset(number) for number in (0, 1, 2)], [(1, 10), (2, 5), (-3, 10)])

    def test_seeded(self):
        for shade in seeded_shades(2, 60):
            for number in (0, 1, -1, 7, -30, LONG, -LONG, 10 ** 79, -(10 ** 79)):
                moment = first_of(shade) + number * num(shade.interval)
                self.assertEqual(shade.moment_of(number), f(moment))
                self.assertEqual(shade.offset(number), f(slow_offset(shade, number)))
                self.assert_fraction(shade.moment_of(number))
                self.assert_fraction(shade.offset(number))
                self.assertIs(shade.is_dark(number), abs(slow_offset(shade, number)) <= num(shade.width))
                self.assertEqual(shade.light.place(f(moment)), shade.cover.place(f(moment)))
                self.assertEqual(num(shade.offset(number)),
                                 offset(num(shade.offset(0)) + number * num(shade.gain)))

    def test_number_zero_is_the_first_from_the_moment_zero(self):
        for shade in seeded_shades(3, 100):
            first = num(shade.moment_of(0))
            self.assertTrue(0 <= first < num(shade.interval))
        for light, cover in (((1, 2), (1, 3)), ((1, 3), (1, 2)), ((0, 1), (-1, 7))):
            shade = Shade(Cycle(light, (1, 4)), Cycle(cover, (1, 4)), NODE, width=(0, 1))
            self.assertEqual(shade.moment_of(0), (0, 1))
            self.assertEqual(shade.number_from((0, 1)), 0)
            self.assertEqual(shade.number_from((1, LONG)), 1)
            self.assertEqual(shade.number_from((-1, LONG)), 0)

    def test_number_from(self):
        tiny = Fraction(1, 10 ** 85)
        for shade in seeded_shades(4, 50):
            for number in (0, 1, -1, 13, -28, LONG, -(10 ** 79)):
                moment = num(shade.moment_of(number))
                self.assertEqual(shade.number_from(f(moment)), number)
                self.assertEqual(shade.number_from(f(moment + tiny)), number + 1)
                self.assertEqual(shade.number_from(f(moment - tiny)), number)
                self.assertEqual(shade.number_from(f(moment + num(shade.interval) / 2)), number + 1)
                self.assertIs(type(shade.number_from(f(moment))), int)

    def test_offsets_of_a_half(self):
        for start, rate in (((1, 2), (0, 1)), ((1, 2), (1, 1)), ((1, 2), (-3, 1))):
            shade = Shade(Cycle((0, 1)), Cycle((1, 1)), Cycle(rate, start), width=(6, 25))
            for number in (0, 5, -5, LONG):
                self.assertEqual(shade.offset(number), (1, 2))
                self.assert_false(shade.is_dark(number))
        back = Shade(Cycle((0, 1), (1, 2)), Cycle((1, 1), (1, 2)), Cycle((0, 1)), width=(0, 1))
        self.assertEqual(back.offset(3), (1, 2))

    def test_offsets_of_just_the_width(self):
        tiny = Fraction(1, LONG)
        for width in ((1, 5), (0, 1), (1, LONG)):
            for side in (1, -1):
                for change, dark in ((0, True), (tiny, False), (-tiny, True)):
                    if change < 0 and num(width) + change < 0:
                        continue
                    start = side * (num(width) + change) % 1
                    shade = Shade(Cycle((0, 1)), Cycle((1, 1)), Cycle((0, 1), f(start)), width=width)
                    self.assertEqual(num(shade.offset(8)), side * (num(width) + change))
                    self.assertIs(shade.is_dark(8), dark)

    def test_forms(self):
        for number in not_integers():
            self.assert_bad("number", SHADE.moment_of, number)
            self.assert_bad("number", SHADE.offset, number)
            self.assert_bad("number", SHADE.is_dark, number)
        for moment in not_fractions():
            self.assert_bad("moment", SHADE.number_from, moment)


class RollTest(SkyCase):
    def test_example(self):
        rows = [(0, (1, 1), (1, 10), True), (1, (4, 1), (2, 5), False), (2, (7, 1), (-3, 10), False)]
        self.assertEqual(roll(SHADE, Span((0, 1), (8, 1))), rows)
        self.assertEqual(dark_numbers(SHADE, Span((0, 1), (8, 1))), [0])

    def test_ends_of_the_span(self):
        self.assertEqual([row[0] for row in roll(SHADE, Span((1, 1), (7, 1)))], [0, 1, 2])
        self.assertEqual([row[0] for row in roll(SHADE, Span((2, 1), (13, 2)))], [1])
        self.assertEqual([row[0] for row in roll(SHADE, Span((-5, 1), (1, 1)))], [-2, -1, 0])

    def test_spans_of_length_zero(self):
        self.assertEqual(roll(SHADE, Span((4, 1), (4, 1))), [(1, (4, 1), (2, 5), False)])
        self.assertEqual(dark_numbers(SHADE, Span((4, 1), (4, 1))), [])
        self.assertEqual(dark_numbers(SHADE, Span((1, 1), (1, 1))), [0])
        for moment in ((5, 1), (4 * LONG + 1, LONG), (4 * LONG - 1, LONG)):
            self.assertEqual(roll(SHADE, Span(moment, moment)), [])
            self.assertEqual(dark_numbers(SHADE, Span(moment, moment)), [])

    def test_no_meeting(self):
        self.assertEqual(roll(SHADE, Span((11, 10), (39, 10))), [])
        self.assertEqual(dark_numbers(SHADE, Span((11, 10), (39, 10))), [])

    def test_seeded(self):
        rows_seen = dark_seen = 0
        for shade in seeded_shades(5, 60):
            interval = num(shade.interval)
            for begin in (Fraction(0), -7 * interval - Fraction(1, 3), LONG * interval):
                span = Span(f(begin), f(begin + 9 * interval))
                rows = roll(shade, span)
                numbers = [row[0] for row in rows]
                self.assertEqual(numbers, list(range(numbers[0], numbers[0] + len(rows))))
                self.assertTrue(9 <= len(rows) <= 10)
                for number, moment, apart, dark in rows:
                    self.assertEqual((type(number), type(dark)), (int, bool))
                    self.assertEqual((moment, apart), (shade.moment_of(number), f(slow_offset(shade, number))))
                    self.assertIs(dark, abs(num(apart)) <= num(shade.width))
                    self.assert_true(moment in span)
                self.assert_false(shade.moment_of(numbers[0] - 1) in span)
                self.assert_false(shade.moment_of(numbers[-1] + 1) in span)
                self.assertEqual(dark_numbers(shade, span), [row[0] for row in rows if row[3]])
                rows_seen += len(rows)
                dark_seen += len(dark_numbers(shade, span))
        self.assertTrue(100 < dark_seen < rows_seen - 100)

    def test_400_and_401_meetings(self):
        bright = Shade(Cycle((0, 1)), Cycle((1, 1)), Cycle((0, 1), (1, 2)), width=(1, 5))
        for shade, dark in ((DAILY, None), (bright, 0)):
            for first in (0, -200, LONG):
                self.assertEqual(len(roll(shade, Span((first, 1), (first + 399, 1)))), 400)
                if dark is not None:
                    self.assertEqual(dark_numbers(shade, Span((first, 1), (first + 399, 1))), [])
                span = Span((first, 1), (first + 400, 1))
                self.assert_many(400, roll, shade, span)
                self.assert_many(400, dark_numbers, shade, span)
        self.assertEqual(len(roll(DAILY, Span((-1, 2), (799, 2)))), 400)
        self.assertEqual(len(roll(DAILY, Span((1, 2), (801, 2)))), 400)

    def test_found_by_counting(self):
        for last in ((10 ** 30, 1), (LONG, 1)):
            self.assert_many(400, roll, DAILY, Span((0, 1), last))
            self.assert_many(400, dark_numbers, DAILY, Span((0, 1), last))
        quick = Shade(Cycle((LONG, 1)), Cycle((-LONG, 1)), NODE, width=(0, 1))
        self.assert_many(400, roll, quick, Span((0, 1), (1, 1)))

    def test_lists_are_new(self):
        span = Span((0, 1), (8, 1))
        roll(SHADE, span).clear()
        dark_numbers(SHADE, span).clear()
        self.assertEqual((len(roll(SHADE, span)), dark_numbers(SHADE, span)), (3, [0]))

    def test_forms(self):
        for call in (roll, dark_numbers):
            for shade in NOT_SHADES:
                self.assert_bad("shade", call, shade, None)
            for span in NOT_SPANS:
                self.assert_bad("span", call, SHADE, span)


class NextDarkTest(SkyCase):
    def test_plain(self):
        # Offsets of DAILY: 0, 3/10, -4/10, -1/10, 2/10, 1/2, -2/10, 1/10, 4/10, -3/10.
        self.assertEqual([next_dark(DAILY, number) for number in range(10)], [0, 3, 3, 3, 4, 6, 6, 7, 10, 10])
        self.assertEqual(next_dark(DAILY, -2), 0)
        self.assertEqual(next_dark(DAILY, 10 * LONG + 8), 10 * LONG + 10)
        self.assertEqual(next_dark(DAILY, -10 * LONG - 2), -10 * LONG)

    def test_within(self):
        self.assertEqual(next_dark(DAILY, 1, within=3), 3)
        self.assertIsNone(next_dark(DAILY, 1, within=2))
        self.assertEqual(next_dark(DAILY, 3, within=1), 3)
        self.assertIsNone(next_dark(DAILY, 2, within=1))

    def test_just_at_and_just_behind(self):
        # Dark at the multiples of 1000 alone.
        rare = Shade(Cycle((0, 1)), Cycle((1, 1)), Cycle((1, 1000)), width=(0, 1))
        for within in (1, 2, 200, 399, 400):
            for at in (0, 1000, -5000, 1000 * LONG):
                self.assertEqual(next_dark(rare, at - within + 1, within=within), at)
                self.assertIsNone(next_dark(rare, at - within, within=within))
        self.assertEqual(next_dark(rare, 801), 1000)
        self.assertIsNone(next_dark(rare, 800))
        self.assertEqual(next_dark(rare, 601, within=400), 1000)
        self.assertIsNone(next_dark(rare, 600, within=400))

    def test_never_dark(self):
        never = Shade(Cycle((0, 1)), Cycle((1, 1)), Cycle((0, 1), (1, 2)), width=(6, 25))
        self.assertIsNone(next_dark(never, 0))
        self.assertIsNone(next_dark(never, -LONG, within=400))

    def test_seeded(self):
        source = random.Random(6)
        for shade in seeded_shades(7, 40):
            number = source.randint(-99, 99)
            dark = [k for k in range(number, number + 20) if abs(slow_offset(shade, k)) <= num(shade.width)]
            self.assertEqual(next_dark(shade, number, within=20), dark[0] if dark else None)

    def test_forms(self):
        for shade in NOT_SHADES:
            self.assert_bad("shade", next_dark, shade, None, within=0)
        for number in not_integers():
            self.assert_bad("number", next_dark, DAILY, number, within=0)
        for within in not_integers() + [0, 401, -1, LONG]:
            self.assert_bad("within", next_dark, DAILY, 0, within=within)
