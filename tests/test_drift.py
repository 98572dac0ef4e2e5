"""Tests of errors of motions [2] [4] [5] [6] [7] [8] [11] [40]."""

import math
import random
from fractions import Fraction

from tests.helpers import SkyCase, f, not_fractions, num
from tests.test_motions import NOT_MOTIONS, NOT_SPANS, TERM, seeded_motions, slow_pieces, slow_turns, span
from wheelsky.cycles import Cycle
from wheelsky.drift import error_paper, good_until, greatest_error, is_error_paper, paper_error
from wheelsky.motions import Motion, even_motion
from wheelsky.slots import Slot

ONE = (1, 1)
HALF = Fraction(1, 2)
STAYS = even_motion(Cycle((0, 1)))
NOT_BOUNDS = not_fractions() + [(-1, 2), (-1, 10 ** 39)]


def turning(rate, start=(0, 1)):
    """Return the motion with this rate whose turns at moment 0 are a fraction."""
    whole, part = divmod(num(start), 1)
    return Motion([(ONE, Cycle(f(rate), f(part)), Slot([((0, 1), f(whole))]))])


def distance(value):
    """Return the distance of a number from the integers."""
    part = value - math.floor(value)
    return min(part, 1 - part)


def row_of(first, last, begun, ended):
    """Return a row of a certificate."""
    return (f(first), f(last), f(begun), f(ended))


def slow_marks(first, last, begun, ended):
    """Return the moments of a row at which D is a multiple of 1/2, and its ends, with D."""
    marks = [(first, begun)]
    if first == last:
        return marks
    if begun != ended:
        low, high = sorted((begun, ended))
        for turn in range(math.floor(2 * low), math.ceil(2 * high) + 1):
            value = Fraction(turn, 2)
            if low <= value <= high:
                marks.append((first + (last - first) * (value - begun) / (ended - begun), value))
    return sorted(marks + [(last, ended)])


def slow_error(rows):
    """Return the greatest error and its earliest moment, from the meaning."""
    marks = [mark for row in rows for mark in slow_marks(*row)]
    error = max(distance(value) for _, value in marks)
    return f(error), f(min(moment for moment, value in marks if distance(value) == error))


def slow_until(rows, bound):
    """Return the end of the good moments, from the meaning."""
    if distance(rows[0][2]) > bound:
        return None
    for row in rows:
        marks = slow_marks(*row)
        for (first, begun), (last, ended) in zip(marks, marks[1:]):
            # Between two marks the distance is straight.
            if distance(ended) > bound:
                share = (bound - distance(begun)) / (distance(ended) - distance(begun))
                return f(first + (last - first) * share)
    return f(rows[-1][1])


def numbers(paper):
    """Return the rows of a certificate as numbers."""
    return [tuple(num(item) for item in row) for row in paper]


def seeded_pairs(seed, many):
    """Return tuples (pointer, target, span, terms of the difference)."""
    found = []
    rows = seeded_motions(seed, 2 * many)
    for (left, row), (right, _) in zip(rows[::2], rows[1::2]):
        left, right = left[:3], right[:3]
        apart = left + [(f(-num(weight)), cycle, slot) for weight, cycle, slot in right]
        found.append((Motion(left), Motion(right), row, apart))
    return found


class ErrorPaperTest(SkyCase):
    def test_seeded(self):
        for pointer, target, row, apart in seeded_pairs(1, 120):
            paper = error_paper(pointer, target, row)
            expected = [(a, b, slow_turns(apart, a), slow_turns(apart, b)) for a, b, _, _ in slow_pieces(apart, row)]
            if not expected:
                moment = num(row.first)
                expected = [(moment, moment, slow_turns(apart, moment), slow_turns(apart, moment))]
            self.assertEqual(numbers(paper), expected)
            for told in paper:
                self.assertIs(type(told), tuple)
                for item in told:
                    self.assert_fraction(item)
            self.assert_true(self.assert_unchanged([paper], is_error_paper, pointer, target, row, paper))
            self.assertEqual(paper_error(paper), slow_error(expected))

    def test_length_zero(self):
        paper = error_paper(turning(3, (1, 4)), STAYS, span(5, 5))
        self.assertEqual(paper, [((5, 1), (5, 1), (61, 4), (61, 4))])
        self.assertEqual(paper_error(paper), ((1, 4), (5, 1)))

    def test_turns_are_not_reduced(self):
        self.assertEqual(error_paper(turning(-7, (-5, 2)), STAYS, span(0, 1)), [row_of(0, 1, -2 - HALF, -9 - HALF)])

    def test_lists_are_new(self):
        error_paper(STAYS, STAYS, span(0, 1)).clear()
        self.assertEqual(len(error_paper(STAYS, STAYS, span(0, 1))), 1)

    def test_too_many(self):
        four, three, one = Motion([TERM] * 4), Motion([TERM] * 3), Motion([TERM])
        paper = [row_of(0, 1, 0, 1)]
        calls = [lambda a, b, row: error_paper(a, b, row), lambda a, b, row: is_error_paper(a, b, row, paper),
                 lambda a, b, row: is_error_paper(a, b, row, None), lambda a, b, row: greatest_error(a, b, row),
                 lambda a, b, row: good_until(a, b, row, bound=(1, 2)),
                 lambda a, b, row: good_until(a, b, row, bound=ONE)]
        for call in calls:
            for row in (span(0, 0), span(0, 1), span(0, 10 ** 30)):
                # Seven terms together go ahead of the visits.
                self.assert_many(6, call, four, three, row)
                self.assert_many(6, call, three, four, row)
                self.assert_many(6, call, one, Motion([TERM] * 6), row)
            call(three, three, span(0, 1))
            call(one, STAYS, span(0, Fraction(199, 2)))
            call(STAYS, one, span(0, Fraction(199, 2)))
            call(one, one, span(0, Fraction(99, 2)))
            for row in (span(0, 100), span(0, 10 ** 30)):
                self.assert_many(200, call, one, STAYS, row)
                self.assert_many(200, call, STAYS, one, row)
            self.assert_many(200, call, one, one, span(0, 50))

    def test_two_hundred_visits(self):
        row = span(Fraction(1, 4), Fraction(401, 4))
        paper = error_paper(Motion([TERM]), STAYS, row)
        self.assertEqual(len(paper), 201)
        self.assert_true(is_error_paper(Motion([TERM]), STAYS, row, paper))
        self.assertEqual(paper_error(paper), slow_error(numbers(paper)))

    def test_forms(self):
        row = span(0, 1)
        for thing in NOT_MOTIONS:
            self.assert_bad("pointer", error_paper, thing, None, None)
            self.assert_bad("pointer", is_error_paper, thing, STAYS, row, None)
            self.assert_bad("pointer", greatest_error, thing, None, row)
            self.assert_bad("pointer", good_until, thing, None, None, bound=None)
            self.assert_bad("target", error_paper, STAYS, thing, None)
            self.assert_bad("target", is_error_paper, STAYS, thing, None, None)
            self.assert_bad("target", greatest_error, STAYS, thing, row)
            self.assert_bad("target", good_until, STAYS, thing, None, bound=None)
        seven = Motion([TERM] * 6)
        for thing in NOT_SPANS:
            self.assert_bad("span", error_paper, seven, seven, thing)
            self.assert_bad("span", is_error_paper, seven, seven, thing, None)
            self.assert_bad("span", greatest_error, seven, seven, thing)
            self.assert_bad("span", good_until, seven, seven, thing, bound=None)
        for bound in NOT_BOUNDS:
            self.assert_bad("bound", good_until, seven, seven, row, bound=bound)
            self.assert_bad("bound", good_until, Motion([TERM]), STAYS, span(0, 10 ** 30), bound=bound)


class JudgeTest(SkyCase):
    POINTER = Motion([TERM])
    TARGET = turning(Fraction(1, 2))

    def judge(self, paper):
        return is_error_paper(self.POINTER, self.TARGET, span(0, 1), paper)

    def test_one_thing_changed(self):
        right = [row_of(0, HALF, 0, HALF), row_of(HALF, 1, HALF, HALF)]
        self.assert_true(self.judge(right))
        wrong = [[], right[:1], right[1:], right[::-1], right * 2, tuple(right), [list(row) for row in right]]
        # A row in two, and both rows as one.
        quarter = Fraction(1, 4)
        wrong += [[row_of(0, quarter, 0, quarter), row_of(quarter, HALF, quarter, HALF), right[1]]]
        wrong += [[row_of(0, 1, 0, HALF)]]
        for at in range(2):
            for item in range(4):
                for other in ((1, 3), (2, 4), (False, 1), (True, 2), None, 0, [1, 2], (3, 2), (-1, 2)):
                    if right[at][item] != other:
                        changed = list(right)
                        changed[at] = right[at][:item] + (other,) + right[at][item + 1:]
                        wrong.append(changed)
        # True and False are equal to 1 and 0, but stand for nothing.
        wrong += [[((False, 1),) + right[0][1:], right[1]], [right[0], (right[1][0], (True, 1)) + right[1][2:]]]
        wrong += [[right[0][:3], right[1]], [right[0] + ((0, 1),), right[1]], [right[0], None]]
        for paper in wrong:
            self.assert_false(self.judge(paper))

    def test_reduced_turns(self):
        row = span(3, 4)
        right = error_paper(turning(1), STAYS, row)
        self.assertEqual(right, [row_of(3, 4, 3, 4)])
        self.assert_false(is_error_paper(turning(1), STAYS, row, [row_of(3, 4, 0, 1)]))

    def test_values_of_every_kind(self):
        self.assert_judges_all(self.judge)
        self.assert_judges_all(lambda value: is_error_paper(STAYS, STAYS, span(0, 0), value))


class PaperErrorTest(SkyCase):
    def check(self, *rows):
        """Check the answer for rows of numbers, and return it."""
        paper = [row_of(*row) for row in rows]
        answer = self.assert_unchanged([paper], paper_error, paper)
        self.assertEqual(answer, slow_error([tuple(Fraction(item) for item in row) for row in rows]))
        self.assert_fraction(answer[0])
        self.assert_fraction(answer[1])
        return answer

    def test_through_a_half(self):
        self.assertEqual(self.check((0, 1, 0, 1)), ((1, 2), (1, 2)))
        self.assertEqual(self.check((0, 1, 1, 0)), ((1, 2), (1, 2)))
        self.assertEqual(self.check((0, 4, Fraction(-1, 4), Fraction(15, 4))), ((1, 2), (3, 4)))
        self.assertEqual(self.check((0, 4, Fraction(1, 4), Fraction(-15, 4))), ((1, 2), (3, 4)))
        self.assertEqual(self.check((0, 1, Fraction(5, 4), Fraction(7, 4))), ((1, 2), (1, 2)))
        self.assertEqual(self.check((0, 1, Fraction(-5, 4), Fraction(-7, 4))), ((1, 2), (1, 2)))

    def test_begins_ends_or_stays_at_a_half(self):
        self.assertEqual(self.check((2, 3, HALF, 0)), ((1, 2), (2, 1)))
        self.assertEqual(self.check((2, 3, HALF, 5)), ((1, 2), (2, 1)))
        self.assertEqual(self.check((2, 3, 0, HALF)), ((1, 2), (3, 1)))
        self.assertEqual(self.check((2, 3, 0, -HALF)), ((1, 2), (3, 1)))
        self.assertEqual(self.check((2, 3, HALF, HALF)), ((1, 2), (2, 1)))
        self.assertEqual(self.check((2, 3, 0, HALF / 2), (3, 5, HALF / 2, HALF)), ((1, 2), (5, 1)))

    def test_below_a_half(self):
        third = Fraction(1, 3)
        self.assertEqual(self.check((0, 1, third, -third)), ((1, 3), (0, 1)))
        self.assertEqual(self.check((0, 1, 0, third), (1, 2, third, 0)), ((1, 3), (1, 1)))
        self.assertEqual(self.check((0, 1, 0, third), (1, 2, third, third), (2, 3, third, -third)), ((1, 3), (1, 1)))
        self.assertEqual(self.check((0, 1, 5 + third, 5 - third), (1, 2, 5 - third, 5)), ((1, 3), (0, 1)))
        self.assertEqual(self.check((0, 1, 0, 0)), ((0, 1), (0, 1)))
        self.assertEqual(self.check((-4, -3, 7, 7)), ((0, 1), (-4, 1)))
        self.assertEqual(self.check((0, 1, Fraction(2, 3), Fraction(4, 3))), ((1, 3), (0, 1)))

    def test_one_moment(self):
        for ended in (0, HALF, 17, Fraction(-1, 3), 10 ** 39):
            self.assertEqual(paper_error([row_of(3, 3, Fraction(7, 4), ended)]), ((1, 4), (3, 1)))
            self.assertEqual(paper_error([row_of(3, 3, 2, ended)]), ((0, 1), (3, 1)))
            self.assertEqual(paper_error([row_of(3, 3, HALF, ended)]), ((1, 2), (3, 1)))

    def test_seeded(self):
        source = random.Random(3)
        for digits in (1, 1, 1, 2, 39):
            for _ in range(60):
                count = source.choice((1, 2, 5, 20))
                top = 10 ** digits
                moments = sorted({Fraction(source.randint(-top, top), source.randint(1, 4)) for _ in range(count + 1)})
                values = [Fraction(source.randint(-5, 5), source.choice((1, 2, 3, top))) for _ in moments]
                rows = list(zip(moments, moments[1:], values, values[1:]))
                if rows:
                    self.check(*rows)

    def test_lengths(self):
        rows = [(number, number + 1, Fraction(number, 500), Fraction(number + 1, 500)) for number in range(202)]
        self.assertEqual(self.check(rows[0]), ((1, 500), (1, 1)))
        self.assertEqual(self.check(*rows[:201]), ((201, 500), (201, 1)))
        self.assert_bad("paper", paper_error, [row_of(*row) for row in rows])
        self.assert_bad("paper", paper_error, [])

    def test_each_rule_of_the_form(self):
        right = [row_of(0, 1, 0, HALF), row_of(1, 2, HALF, 3)]
        paper_error(right)
        wrong = [tuple(right), None, {}, 1, True, "x", right[0], [list(right[0])], [right[0][:3]]]
        wrong += [[right[0] + ((0, 1),)], [right[0], None], [()], right + [right]]
        for item in range(4):
            for value in not_fractions():
                wrong.append([right[0], right[1][:item] + (value,) + right[1][item + 1:]])
        # Rows that go back, that do not begin where the row before ends, or that have no length.
        wrong += [[row_of(1, 0, 0, 0)], [row_of(0, Fraction(-1, 10 ** 39), 0, 0)], right[::-1], right[:1] * 2]
        wrong += [[right[0], row_of(Fraction(3, 2), 2, HALF, 3)], [right[0], row_of(HALF, 2, HALF, 3)]]
        wrong += [[right[0], row_of(1, 2, -HALF, 3)], [right[0], row_of(1, 2, 1 + HALF, 3)]]
        wrong += [[right[0], row_of(1, 1, HALF, HALF)], [row_of(0, 0, 0, 0)] + right]
        wrong += [[row_of(0, 0, 0, 0)] * 2, [right[0], row_of(1, 0, HALF, 3)], right + [row_of(2, 2, 3, 3)]]
        wrong += [[row_of(0, 2, 0, 1), row_of(2, 1, 1, 2), row_of(1, 3, 2, 3)]]
        for paper in wrong:
            self.assert_bad("paper", paper_error, paper)

    def test_long_numbers(self):
        tiny = Fraction(1, 10 ** 39)
        self.check((0, 1, HALF - tiny, HALF - 2 * tiny))
        self.check((0, tiny, 10 ** 38 + HALF - tiny, 10 ** 38 + HALF + tiny))
        far = [row_of(-10 ** 39, 10 ** 39, -10 ** 39, 10 ** 39)]
        self.assertEqual(paper_error(far), ((1, 2), f(HALF - 10 ** 39)))
        far = [row_of(-10 ** 39, 10 ** 39, 10 ** 39, -10 ** 39)]
        self.assertEqual(paper_error(far), ((1, 2), f(HALF - 10 ** 39)))


class GreatestErrorTest(SkyCase):
    def test_seeded(self):
        for pointer, target, row, apart in seeded_pairs(4, 150):
            rows = numbers(error_paper(pointer, target, row))
            self.assertEqual(greatest_error(pointer, target, row), slow_error(rows))

    def test_the_earliest_moment(self):
        slot = Slot([((0, 1), (0, 1)), ((1, 4), (1, 8)), ((1, 2), (0, 1)), ((3, 4), (-1, 8))])
        pointer = Motion([(ONE, Cycle((1, 1)), slot)])
        self.assertEqual(greatest_error(pointer, turning(1), span(0, 7)), ((1, 8), (1, 4)))
        self.assertEqual(greatest_error(pointer, turning(1), span(HALF, 7)), ((1, 8), (3, 4)))
        self.assertEqual(greatest_error(turning(1), pointer, span(1, 7)), ((1, 8), (5, 4)))
        self.assertEqual(greatest_error(pointer, pointer, span(-2, 7)), ((0, 1), (-2, 1)))

    def test_length_zero(self):
        self.assertEqual(greatest_error(turning(1, (1, 3)), STAYS, span(7, 7)), ((1, 3), (7, 1)))
        self.assertEqual(greatest_error(turning(1, (1, 2)), STAYS, span(7, 7)), ((1, 2), (7, 1)))


class GoodUntilTest(SkyCase):
    def test_seeded(self):
        source = random.Random(6)
        nones = 0
        for pointer, target, row, apart in seeded_pairs(5, 250):
            rows = numbers(error_paper(pointer, target, row))
            bound = source.choice((Fraction(0), Fraction(1, 4), Fraction(1, 3), Fraction(5, 12), HALF, Fraction(2, 5)))
            answer = good_until(pointer, target, row, bound=f(bound))
            self.assertEqual(answer, slow_until(rows, bound))
            nones += answer is None
            if answer is not None:
                self.assert_fraction(answer)
        self.assertTrue(30 < nones < 200)

    def test_bounds_of_a_half_and_above(self):
        for bound in ((1, 2), (2, 3), (10 ** 39, 1)):
            for start in ((0, 1), (1, 2)):
                self.assertEqual(good_until(turning(3, start), STAYS, span(-1, 9), bound=bound), (9, 1))

    def test_bound_zero(self):
        self.assertEqual(good_until(turning(2, (5, 1)), turning(2), span(0, 9), bound=(0, 1)), (9, 1))
        self.assertEqual(good_until(turning(2), STAYS, span(0, 9), bound=(0, 1)), (0, 1))
        self.assertEqual(good_until(turning(-2), STAYS, span(0, 9), bound=(0, 1)), (0, 1))
        self.assertIsNone(good_until(turning(2, (1, 3)), STAYS, span(0, 9), bound=(0, 1)))
        self.assertIsNone(good_until(turning(2, (1, 3)), turning(2), span(0, 9), bound=(0, 1)))
        # The error is 0 up to a half, and then it is not.
        stands = Motion([(ONE, Cycle((1, 1)), Slot([((0, 1), (0, 1)), ((1, 2), (0, 1)), ((3, 4), (1, 8))]))])
        self.assertEqual(good_until(stands, turning(1), span(0, 1), bound=(0, 1)), (1, 2))

    def test_in_the_middle_of_a_piece(self):
        for rate, moment in ((1, (1, 3)), (-1, (1, 3)), (7, (1, 21)), (Fraction(-1, 7), (7, 3))):
            self.assertEqual(good_until(turning(rate), STAYS, span(0, 9), bound=(1, 3)), moment)
        self.assertEqual(good_until(turning(1, (-1, 3)), STAYS, span(0, 9), bound=(1, 3)), (2, 3))
        self.assertEqual(good_until(turning(-1, (16, 3)), STAYS, span(0, 9), bound=(1, 3)), (2, 3))
        self.assertEqual(good_until(turning(1, (3, 4)), STAYS, span(0, 9), bound=(1, 3)), (7, 12))

    def test_at_the_first_moment(self):
        self.assertIsNone(good_until(turning(1, (2, 5)), STAYS, span(0, 9), bound=(1, 3)))
        # It is just the bound, and grows or falls.
        self.assertEqual(good_until(turning(1, (1, 3)), STAYS, span(0, 9), bound=(1, 3)), (0, 1))
        self.assertEqual(good_until(turning(-1, (1, 3)), STAYS, span(0, 9), bound=(1, 3)), (2, 3))
        self.assertIsNone(good_until(turning(1, (2, 5)), STAYS, span(0, 0), bound=(1, 3)))
        self.assertEqual(good_until(turning(1, (1, 3)), STAYS, span(0, 0), bound=(1, 3)), (0, 1))

    def test_touching_the_bound(self):
        self.assertEqual(good_until(turning(1), STAYS, span(0, Fraction(1, 3)), bound=(1, 3)), (1, 3))
        bump = Slot([((0, 1), (0, 1)), ((1, 4), (1, 8)), ((1, 2), (0, 1)), ((3, 4), (-1, 8))])
        pointer = Motion([(ONE, Cycle((1, 1)), bump)])
        for target, motion in ((turning(1), pointer), (pointer, turning(1))):
            self.assertEqual(good_until(motion, target, span(0, 9), bound=(1, 8)), (9, 1))
            self.assertEqual(good_until(motion, target, span(0, 9), bound=(1, 16)), (1, 8))
        uneven = Slot([((0, 1), (0, 1)), ((1, 4), (1, 8)), ((1, 2), (0, 1)), ((3, 4), (-1, 4))])
        later = Motion([(ONE, Cycle((1, 1)), uneven)])
        self.assertEqual(good_until(later, turning(1), span(0, 9), bound=(1, 8)), (5, 8))
        # It touches the bound, stays there, and goes on.
        stays = Slot([((0, 1), (0, 1)), ((1, 4), (1, 8)), ((1, 2), (1, 8)), ((3, 4), (1, 4))])
        longer = Motion([(ONE, Cycle((1, 1)), stays)])
        self.assertEqual(good_until(longer, turning(1), span(0, 9), bound=(1, 8)), (1, 2))

    def test_long_numbers(self):
        tiny = Fraction(1, 10 ** 39)
        answer = good_until(turning(tiny), STAYS, span(0, 10 ** 39), bound=(1, 3))
        self.assertEqual(answer, f(10 ** 39, 3))
        self.assertEqual(good_until(turning(1, f(HALF - tiny)), STAYS, span(0, 9), bound=f(HALF - tiny)), (0, 1))
