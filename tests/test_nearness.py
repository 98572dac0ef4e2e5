"""Tests of nearness [2] [4] [5] [6] [7] [8] [22] [23]."""

import math
import random
from fractions import Fraction

from tests.helpers import SkyCase, ends, f, not_fractions, num, objects
from wheelsky.cycles import Cycle
from wheelsky.nearness import is_near, is_near_paper, near_days, near_paper, near_spans, next_near
from wheelsky.spans import Span

A = Cycle((0, 1))
B = Cycle((1, 10))
DAY = Cycle((1, 1))
WIDE = (10 ** 39 - 1, 2 * 10 ** 39)
NOT_WIDTHS = not_fractions() + [(1, 2), (-1, 10), (1, 1), (7, 2), (-1, 10 ** 39)]


def span(first, last):
    """Return the span between two numbers."""
    return Span(f(first), f(last))


def near_at(cycles, moment, width):
    """Tell from the meaning whether the number is a near moment."""
    for cycle in cycles:
        apart = (num(cycle.start) - num(cycles[0].start)) + (num(cycle.rate) - num(cycles[0].rate)) * moment
        if abs(apart - round(apart)) > width:
            return False
    return True


def turning_points(cycles, first, last, width):
    """Return the ends of the span and all moments between at which a cycle may become near or far."""
    points = {first, last}
    for cycle in cycles:
        rate = num(cycle.rate) - num(cycles[0].rate)
        start = num(cycle.start) - num(cycles[0].start)
        if rate:
            turns = sorted((start + rate * first, start + rate * last))
            for turn in range(math.floor(turns[0]) - 1, math.ceil(turns[1]) + 2):
                points |= {(turn + side * width - start) / rate for side in (-1, 1)}
    return sorted(point for point in points if first <= point <= last)


def slow_near_spans(cycles, row, width):
    """Return the near spans within a span, by looking at all moments that matter."""
    points = turning_points(cycles, num(row.first), num(row.last), width)
    found = []
    for index, point in enumerate(points):
        joins = index > 0 and near_at(cycles, (points[index - 1] + point) / 2, width)
        if near_at(cycles, point, width):
            if joins:
                found[-1][1] = point
            else:
                found.append([point, point])
    return [(f(first), f(last)) for first, last in found]


def slow_judge(cycles, row, paper, width):
    """Judge rows of the right form by the words of the document, one by one."""
    if not paper:
        return row.first == row.last and not near_at(cycles, num(row.first), width)
    if paper[0][0] != row.first or paper[-1][1] != row.last:
        return False
    for before, after in zip(paper, paper[1:]):
        if before[1] != after[0] or (before[2] is None and after[2] is None):
            return False
    for first, last, away in paper:
        first, last = num(first), num(last)
        if first > last or (away is not None and first == last):
            return False
        judged = cycles if away is None else [cycles[0], cycles[away]]
        points = turning_points(judged, first, last, width)
        between = [(a + b) / 2 for a, b in zip(points, points[1:])]
        if away is None and not all(near_at(judged, moment, width) for moment in points + between):
            return False
        if away is not None and any(near_at(judged, moment, width) for moment in points[1:-1] + between):
            return False
    spared = {end for first, last, away in paper if away is None for end in (first, last)}
    touched = {end for first, last, away in paper if away is not None for end in (first, last)}
    return not any(near_at(cycles, num(moment), width) for moment in touched - spared)


def seeded_questions(seed, many):
    """Return tuples (cycles, span, width)."""
    source = random.Random(seed)
    questions = []
    for _ in range(many):
        count = source.randint(2, 6)
        cycles = []
        for _ in range(count):
            rate = f(source.randint(-4, 4), source.choice((1, 2, 3, 4, 10)))
            cycles.append(Cycle(rate, f(source.randint(0, 11), 12)))
        first = Fraction(source.randint(-40, 40), 8)
        length = source.choice((0, 1, Fraction(1, 3), 5, 9))
        width = source.choice(((0, 1), (1, 12), (1, 6), (1, 4), (1, 3), (5, 12), (9, 20), WIDE))
        questions.append((cycles, span(first, first + length), width))
    return questions


class IsNearTest(SkyCase):
    def test_edges(self):
        self.assert_true(is_near([A, B], (2, 1), width=(1, 5)))
        self.assert_false(is_near([A, B], f(2 + Fraction(1, 10 ** 39)), width=(1, 5)))
        self.assert_true(is_near([A, B], (8, 1), width=(1, 5)))
        self.assert_true(is_near([A, B], (-2, 1), width=(1, 5)))
        self.assert_true(is_near([A, A], (5, 3), width=(0, 1)))
        self.assert_false(is_near([A, B, Cycle((0, 1), (1, 2))], (0, 1), width=WIDE))
        self.assert_true(is_near([A, Cycle((0, 1), (1, 4))], (0, 1), width=(1, 4)))
        self.assert_true(is_near([A, Cycle((0, 1), (3, 4))], (0, 1), width=(1, 4)))

    def test_the_first_one_leads(self):
        left, right = Cycle((0, 1), (9, 10)), Cycle((0, 1), (1, 10))
        self.assert_true(is_near([A, left, right], (0, 1), width=(1, 10)))
        self.assert_false(is_near([left, A, right], (0, 1), width=(1, 10)))

    def test_seeded(self):
        for cycles, row, width in seeded_questions(1, 200):
            answer = self.assert_unchanged([cycles], is_near, cycles, row.first, width=width)
            self.assertIs(answer, near_at(cycles, num(row.first), num(width)))

    def test_long_numbers(self):
        moment = f(7 ** 200, 3 ** 90)
        self.assertIs(is_near([A, B], moment, width=(1, 5)), near_at([A, B], num(moment), num((1, 5))))


class NearSpansTest(SkyCase):
    def test_example_and_edges(self):
        rows = near_spans([A, B], span(0, 12), width=(1, 5))
        self.assertEqual(ends(rows), [((0, 1), (2, 1)), ((8, 1), (12, 1))])
        self.assertEqual(ends(near_spans([A, B], span(2, 8), width=(1, 5))), [((2, 1), (2, 1)), ((8, 1), (8, 1))])
        self.assertEqual(near_spans([A, B], span(3, 7), width=(1, 5)), [])
        self.assertEqual(near_spans([A, B], span(-2, 2), width=(1, 5)), [span(-2, 2)])
        self.assertEqual(near_spans([A, B], span(-3, 3), width=(1, 5)), [span(-2, 2)])
        back = Cycle((-1, 10))
        self.assertEqual(near_spans([A, back], span(0, 12), width=(1, 5)), [span(0, 2), span(8, 12)])

    def test_width_zero(self):
        self.assertEqual(near_spans([A, B], span(0, 25), width=(0, 1)), [span(0, 0), span(10, 10), span(20, 20)])
        self.assertEqual(near_spans([A, B], span(1, 9), width=(0, 1)), [])

    def test_width_just_below_half(self):
        tiny = Fraction(1, 10 ** 38)
        rows = near_spans([A, B], span(0, 12), width=f(Fraction(1, 2) - tiny))
        self.assertEqual(rows, [span(0, 5 - 10 * tiny), span(5 + 10 * tiny, 12)])

    def test_spans_of_length_zero(self):
        self.assertEqual(near_spans([A, B], span(2, 2), width=(1, 5)), [span(2, 2)])
        self.assertEqual(near_spans([A, B], span(3, 3), width=(1, 5)), [])

    def test_equal_rates(self):
        self.assertEqual(near_spans([A, A], span(0, 10 ** 39), width=(0, 1)), [span(0, 10 ** 39)])
        apart = Cycle((0, 1), (1, 3))
        self.assertEqual(near_spans([A, apart], span(0, 9), width=(1, 3)), [span(0, 9)])
        self.assertEqual(near_spans([A, apart], span(0, 9), width=(1, 4)), [])
        self.assertEqual(near_spans([A, B, apart], span(0, 9), width=(1, 4)), [])

    def test_seeded(self):
        for cycles, row, width in seeded_questions(2, 200):
            rows = self.assert_unchanged([cycles], near_spans, cycles, row, width=width)
            self.assertEqual(ends(rows), slow_near_spans(cycles, row, num(width)))

    def test_many(self):
        self.assertEqual(len(near_spans([A, DAY], span(1, 200), width=(0, 1))), 200)
        self.assertEqual(len(near_spans([A, DAY], span(Fraction(1, 2), Fraction(401, 2)), width=(1, 4))), 200)
        self.assert_many(200, near_spans, [A, DAY], span(1, 201), width=(0, 1))
        self.assert_many(200, near_spans, [A, DAY], span(Fraction(1, 4), Fraction(803, 4)), width=(1, 4))
        self.assert_many(200, near_spans, [A, DAY], span(0, 10 ** 39), width=(1, 3))
        self.assert_many(200, near_spans, [A, Cycle((-1, 1))], span(1, 201), width=(0, 1))

    def test_one_too_many_by_a_single_moment(self):
        # The near spans are [n - 1/4, n + 1/4]; of the first one there is its last moment only.
        first, last = Fraction(1, 4), Fraction(799, 4)
        rows = near_spans([A, DAY], span(first, last - Fraction(1, 1000)), width=(1, 4))
        self.assertEqual((len(rows), rows[0]), (200, span(first, first)))
        rows = near_spans([A, DAY], span(first + Fraction(1, 1000), last), width=(1, 4))
        self.assertEqual((len(rows), rows[-1]), (200, span(last, last)))
        self.assert_many(200, near_spans, [A, DAY], span(first, last), width=(1, 4))

    def test_many_even_if_no_moment_is_near(self):
        never = Cycle((0, 1), (1, 2))
        for cycles in ([A, never, DAY], [A, DAY, never], [A, B, never, DAY]):
            self.assert_many(200, near_spans, cycles, span(1, 201), width=(0, 1))
            self.assert_many(200, near_paper, cycles, span(1, 201), width=(0, 1))
            self.assert_many(200, next_near, cycles, (1, 1), width=(0, 1), within=(200, 1))
            self.assertEqual(near_spans(cycles, span(1, 200), width=(0, 1)), [])

    def test_told_lists_are_new(self):
        near_spans([A, A], span(0, 1), width=(0, 1)).clear()
        self.assertEqual(near_spans([A, A], span(0, 1), width=(0, 1)), [span(0, 1)])


class NearPaperTest(SkyCase):
    def check(self, cycles, row, width):
        paper = self.assert_unchanged([cycles], near_paper, cycles, row, width=width)
        self.assertIs(type(paper), list)
        self.assertLessEqual(len(paper), 2500)
        for found in paper:
            self.assertIs(type(found), tuple)
            self.assert_fraction(found[0])
            self.assert_fraction(found[1])
        self.assertTrue(slow_judge(cycles, row, paper, num(width)))
        self.assert_true(self.assert_unchanged([cycles, paper], is_near_paper, cycles, row, paper, width=width))
        near = [found[:2] for found in paper if found[2] is None]
        self.assertEqual(near, ends(near_spans(cycles, row, width=width)))
        self.assertEqual(near_paper(cycles, row, width=width), paper)
        return paper

    def test_seeded(self):
        for cycles, row, width in seeded_questions(3, 120):
            self.check(cycles, row, width)

    def test_length_zero(self):
        self.assertEqual(self.check([A, B], span(3, 3), (1, 5)), [])
        self.assertEqual(self.check([A, B], span(2, 2), (1, 5)), [((2, 1), (2, 1), None)])

    def test_example(self):
        paper = self.check([A, B], span(0, 12), (1, 5))
        self.assertEqual(paper, [((0, 1), (2, 1), None), ((2, 1), (8, 1), 1), ((8, 1), (12, 1), None)])
        self.assertEqual(self.check([A, B], span(3, 7), (1, 5)), [((3, 1), (7, 1), 1)])
        self.assertEqual(self.check([A, A], span(3, 7), (0, 1)), [((3, 1), (7, 1), None)])

    def test_the_longest_papers(self):
        rates = [f(200, 201), f(-199, 201), f(198, 201), f(-197, 201), f(196, 201)]
        cycles = [A] + [Cycle(rate, f(k, 7)) for k, rate in enumerate(rates)]
        for width in ((0, 1), (49, 100)):
            self.check(cycles, span(0, 198), width)

    def test_seeded_changes(self):
        source = random.Random(4)
        falses = 0
        for cycles, row, width in seeded_questions(5, 80):
            paper = near_paper(cycles, row, width=width)
            for _ in range(12):
                changed = self.changed(paper, source, len(cycles))
                answer = is_near_paper(cycles, row, changed, width=width)
                self.assertIs(answer, slow_judge(cycles, row, changed, num(width)))
                falses += answer is False
        self.assertGreater(falses, 300)

    def changed(self, paper, source, many):
        """Return the paper with one change, in the form of rows."""
        rows = list(paper)
        if not rows:
            return [((0, 1), (0, 1), None)]
        at = source.randrange(len(rows))
        first, last, away = rows[at]
        middle = f((num(first) + num(last)) / 2)
        kind = source.randrange(7)
        if kind == 0:
            del rows[at]
        elif kind == 1:
            rows[at] = (first, last, source.choice([None] + list(range(1, many))))
        elif kind == 2:
            rows[at:at + 1] = [(first, middle, away), (middle, last, away)]
        elif kind == 3:
            rows[at] = (first, middle, away)
        elif kind == 4:
            rows[at:at + 1] = [(first, middle, away), (middle, last, source.randrange(1, many))]
        elif kind == 5:
            rows.insert(at, (first, first, None))
        else:
            rows[at] = (last, first, away)
        return rows


class JudgeTest(SkyCase):
    RIGHT = [((0, 1), (2, 1), None), ((2, 1), (8, 1), 1), ((8, 1), (12, 1), None)]

    def judge(self, paper):
        return is_near_paper([A, B], span(0, 12), paper, width=(1, 5))

    def test_each_rule_broken(self):
        right = self.RIGHT
        self.assert_true(self.judge(right))
        # A far row in two is right too.
        self.assert_true(self.judge([right[0], ((2, 1), (5, 1), 1), ((5, 1), (8, 1), 1), right[2]]))
        wrong = [[], right[1:], right[:2], [right[0], right[2]], list(reversed(right))]
        # The first and the last moments of the span, and rows that do not join.
        wrong += [[((1, 2), (2, 1), None)] + right[1:], [((-1, 1), (2, 1), None)] + right[1:]]
        wrong += [right[:2] + [((8, 1), (11, 1), None)], right[:2] + [((8, 1), (13, 1), None)]]
        wrong += [[((0, 1), (1, 1), None)] + right[1:], right[:2] + [((9, 1), (12, 1), None)]]
        # Two rows with None together; rows of no length with an index or None.
        wrong += [[((0, 1), (1, 1), None), ((1, 1), (2, 1), None)] + right[1:]]
        wrong += [[((0, 1), (0, 1), None)] + right, right + [((12, 1), (12, 1), None)]]
        wrong += [[right[0], ((2, 1), (2, 1), 1)] + right[1:], [((0, 1), (0, 1), 1)] + right]
        # Rows with None that are not near throughout, rows with an index that are near somewhere.
        wrong += [[((0, 1), (12, 1), None)], [((0, 1), (12, 1), 1)]]
        wrong += [[((0, 1), (3, 1), None), ((3, 1), (8, 1), 1), right[2]]]
        wrong += [[((0, 1), (1, 1), None), ((1, 1), (8, 1), 1), right[2]]]
        wrong += [[right[0], ((2, 1), (9, 1), 1), ((9, 1), (12, 1), None)]]
        wrong += [[right[0], ((2, 1), (5, 1), 1), ((5, 1), (5, 1), None), ((5, 1), (8, 1), 1), right[2]]]
        # Rows that go back.
        wrong += [[right[0], ((2, 1), (9, 1), 1), ((9, 1), (8, 1), 1), right[2]]]
        wrong += [[((0, 1), (3, 1), None), ((3, 1), (2, 1), None)] + right[1:]]
        for paper in wrong:
            self.assert_false(self.judge(paper))

    def test_forms(self):
        right = self.RIGHT
        for away in (0, 2, -1, True, False, "1", (1,), [1], 1.0, (1, 1)):
            self.assert_false(self.judge([right[0], ((2, 1), (8, 1), away), right[2]]))
        for row in (list(right[1]), right[1][:2], right[1] + (None,), None, 1, ("2", (8, 1), 1), ((2, 1), (16, 2), 1)):
            self.assert_false(self.judge([right[0], row, right[2]]))
        self.assert_false(self.judge(tuple(right)))
        self.assert_false(self.judge([right]))
        self.assert_false(self.judge([((False, 1), (2, 1), None)] + right[1:]))
        self.assert_judges_all(self.judge)

    def test_a_near_moment_between_far_rows(self):
        # At 10 the cycle is near with the width 0, and no row with None tells it.
        cycles, row = [A, B], span(5, 15)
        hidden = [((5, 1), (10, 1), 1), ((10, 1), (15, 1), 1)]
        self.assert_false(is_near_paper(cycles, row, hidden, width=(0, 1)))
        told = [hidden[0], ((10, 1), (10, 1), None), hidden[1]]
        self.assert_true(is_near_paper(cycles, row, told, width=(0, 1)))
        self.assert_false(is_near_paper(cycles, row, [((5, 1), (15, 1), 1)], width=(0, 1)))

    def test_a_row_with_none_that_goes_back(self):
        back = [((10, 1), (0, 1), None), ((0, 1), (10, 1), 1)]
        rows = [((5, 1), (10, 1), 1)] + back + [((10, 1), (10, 1), None), ((10, 1), (15, 1), 1)]
        self.assert_false(is_near_paper([A, B], span(5, 15), rows, width=(0, 1)))

    def test_near_ends_of_the_span(self):
        cycles = [A, B]
        self.assert_false(is_near_paper(cycles, span(0, 5), [((0, 1), (5, 1), 1)], width=(0, 1)))
        right = [((0, 1), (0, 1), None), ((0, 1), (5, 1), 1)]
        self.assert_true(is_near_paper(cycles, span(0, 5), right, width=(0, 1)))
        self.assert_false(is_near_paper(cycles, span(5, 10), [((5, 1), (10, 1), 1)], width=(0, 1)))
        right = [((5, 1), (10, 1), 1), ((10, 1), (10, 1), None)]
        self.assert_true(is_near_paper(cycles, span(5, 10), right, width=(0, 1)))

    def test_length_zero(self):
        one = [((2, 1), (2, 1), None)]
        self.assert_true(is_near_paper([A, B], span(2, 2), one, width=(1, 5)))
        self.assert_false(is_near_paper([A, B], span(2, 2), [], width=(1, 5)))
        self.assert_false(is_near_paper([A, B], span(2, 2), one + one, width=(1, 5)))
        self.assert_false(is_near_paper([A, B], span(2, 2), [((2, 1), (2, 1), 1)], width=(1, 5)))
        self.assert_true(is_near_paper([A, B], span(3, 3), [], width=(1, 5)))
        self.assert_false(is_near_paper([A, B], span(3, 3), [((3, 1), (3, 1), None)], width=(1, 5)))
        self.assert_false(is_near_paper([A, B], span(3, 4), [], width=(1, 5)))

    def test_no_too_many(self):
        cycles, row = [A, DAY, Cycle((0, 1), (1, 2))], span(0, 10 ** 30)
        self.assert_many(200, near_paper, cycles, row, width=(1, 4))
        self.assert_true(is_near_paper(cycles, row, [((0, 1), f(10 ** 30), 2)], width=(1, 4)))
        self.assert_false(is_near_paper(cycles, row, [((0, 1), f(10 ** 30), 1)], width=(1, 4)))
        self.assert_false(is_near_paper(cycles, row, [], width=(1, 4)))
        self.assert_false(is_near_paper([A, DAY], span(1, 201), None, width=(0, 1)))

    def test_equal_rates(self):
        apart = Cycle((0, 1), (1, 3))
        self.assert_true(is_near_paper([A, apart], span(0, 9), [((0, 1), (9, 1), 1)], width=(1, 4)))
        self.assert_false(is_near_paper([A, apart], span(0, 9), [((0, 1), (9, 1), None)], width=(1, 4)))
        self.assert_true(is_near_paper([A, apart], span(0, 9), [((0, 1), (9, 1), None)], width=(1, 3)))
        self.assert_false(is_near_paper([A, apart], span(0, 9), [((0, 1), (9, 1), 1)], width=(1, 3)))


class NextNearTest(SkyCase):
    def test_next_near(self):
        self.assertEqual(next_near([A, B], (1, 1), width=(1, 5)), (1, 1))
        self.assertEqual(next_near([A, B], (3, 1), width=(1, 5)), (8, 1))
        self.assertEqual(next_near([A, B], (-7, 1), width=(1, 5)), (-2, 1))
        self.assertEqual(next_near([A, B], (3, 1), width=(1, 5), within=(5, 1)), (8, 1))
        self.assertIsNone(next_near([A, B], (3, 1), width=(1, 5), within=(49, 10)))

    def test_within_zero_and_left_out(self):
        self.assertEqual(next_near([A, B], (2, 1), width=(1, 5), within=(0, 1)), (2, 1))
        self.assertIsNone(next_near([A, B], (3, 1), width=(1, 5), within=(0, 1)))
        slow = Cycle((1, 100), (1, 100))
        self.assertEqual(next_near([A, slow], (-1, 1), width=(0, 1)), (-1, 1))
        self.assertEqual(next_near([A, slow], (0, 1), width=(0, 1)), (99, 1))
        later = Cycle((1, 1000))
        self.assertEqual(next_near([A, later], (900, 1), width=(0, 1)), (1000, 1))
        self.assertIsNone(next_near([A, later], (899, 1), width=(0, 1)))

    def test_seeded(self):
        for cycles, row, width in seeded_questions(6, 200):
            rows = near_spans(cycles, row, width=width)
            answer = next_near(cycles, row.first, width=width, within=row.length)
            self.assertEqual(answer, rows[0].first if rows else None)

    def test_many(self):
        self.assert_many(200, next_near, [A, DAY], (0, 1), width=(0, 1), within=(200, 1))
        self.assertEqual(next_near([A, DAY], (0, 1), width=(0, 1), within=(199, 1)), (0, 1))
        self.assert_many(200, next_near, [A, Cycle((3, 1))], (0, 1), width=(0, 1))


class NearDaysTest(SkyCase):
    def test_days(self):
        self.assertEqual(near_days([A, B], span(-3, 13), width=(1, 5)), [-2, -1, 0, 1, 2, 8, 9, 10, 11, 12])
        self.assertEqual(near_days([A, B], Span((1, 3), (2, 3)), width=(1, 5)), [])
        self.assertEqual(near_days([A, B], span(2, 2), width=(1, 5)), [2])
        self.assertEqual(near_days([A, B], span(3, 3), width=(1, 5)), [])

    def test_seeded(self):
        for cycles, row, width in seeded_questions(7, 200):
            days = range(math.ceil(num(row.first)), math.floor(num(row.last)) + 1)
            expected = [day for day in days if near_at(cycles, day, num(width))]
            self.assertEqual(near_days(cycles, row, width=width), expected)

    def test_many_days_alone_are_too_many(self):
        quick = Cycle((10 ** 30, 1))
        self.assertEqual(near_days([A, quick], span(1, 400), width=(0, 1)), list(range(1, 401)))
        self.assert_many(400, near_days, [A, quick], span(1, 401), width=(0, 1))
        self.assert_many(400, near_days, [A, Cycle((0, 1), (1, 2))], span(0, 10 ** 39), width=(0, 1))


class FormsTest(SkyCase):
    def test_wrong_cycles(self):
        row = span(0, 1)
        for cycles in [[A], [A] * 7, (A, B), None, [], [A, None], [A, (1, 2)], A, [A, row]]:
            self.assert_bad("cycles", is_near, cycles, None, width=None)
            self.assert_bad("cycles", near_spans, cycles, None, width=None)
            self.assert_bad("cycles", near_paper, cycles, row, width=(0, 1))
            self.assert_bad("cycles", is_near_paper, cycles, None, [], width=None)
            self.assert_bad("cycles", next_near, cycles, (0, 1), width=None)
            self.assert_bad("cycles", near_days, cycles, None, width=(0, 1))
            # There is no day in this span.
            self.assert_bad("cycles", near_days, cycles, Span((1, 3), (2, 3)), width=(0, 1))

    def test_wrong_spans_and_moments(self):
        for value in [None, ((0, 1), (1, 1)), [], True] + objects()[1:]:
            self.assert_bad("span", near_spans, [A, B], value, width=None)
            self.assert_bad("span", near_paper, [A, B], value, width=(0, 1))
            self.assert_bad("span", is_near_paper, [A, B], value, [], width=(1, 2))
            self.assert_bad("span", near_days, [A, B], value, width=(0, 1))
        for value in not_fractions():
            self.assert_bad("moment", is_near, [A, B], value, width=(1, 2))
            self.assert_bad("moment", next_near, [A, B], value, width=None, within=None)

    def test_wrong_widths(self):
        row = span(0, 10 ** 39)
        for width in NOT_WIDTHS:
            self.assert_bad("width", is_near, [A, B], (0, 1), width=width)
            self.assert_bad("width", near_spans, [A, B], row, width=width)
            self.assert_bad("width", near_paper, [A, B], row, width=width)
            self.assert_bad("width", is_near_paper, [A, B], row, None, width=width)
            self.assert_bad("width", next_near, [A, B], (0, 1), width=width, within=(-1, 1))
            self.assert_bad("width", near_days, [A, B], row, width=width)

    def test_wrong_within(self):
        for within in not_fractions() + [(-1, 1), (-1, 10 ** 39)]:
            self.assert_bad("within", next_near, [A, B], (0, 1), width=(0, 1), within=within)
