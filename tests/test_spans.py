"""Tests of spans and lists of them [4] [5] [6] [10] [14] [15]."""

import itertools
import random
from fractions import Fraction

from tests.helpers import SkyCase, ends, f, not_fractions, num, objects, odd_values
from wheelsky.spans import Span, gaps, joined, shared


def span(first, last):
    """Return the span between two numbers."""
    return Span(f(first), f(last))


def pairs(spans):
    """Return the ends of the spans as numbers."""
    return [(num(row.first), num(row.last)) for row in spans]


class SpanTest(SkyCase):
    def test_attributes(self):
        row = Span((-1, 2), (7, 3))
        self.assertEqual((row.first, row.last, row.length), ((-1, 2), (7, 3), (17, 6)))
        self.assertEqual(Span((1, 3), (1, 3)).length, (0, 1))
        long = 10 ** 200
        self.assertEqual(Span((-long, 3), (long, 7)).length, f(10 * long, 21))

    def test_wrong_forms_go_ahead_of_mismatch(self):
        for value in not_fractions():
            self.assert_bad("first", Span, value, (0, 1))
            self.assert_bad("first", Span, value, value)
            self.assert_bad("last", Span, (5, 1), value)
        self.assert_mismatch(Span, (1, 2), (1, 3))
        self.assert_mismatch(Span, (0, 1), (-1, 10 ** 39))

    def test_in(self):
        row = Span((-1, 2), (7, 3))
        for moment in ((-1, 2), (7, 3), (0, 1), (2, 1)):
            self.assert_true(moment in row)
        tiny = Fraction(1, 10 ** 40)
        for moment in (num((-1, 2)) - tiny, num((7, 3)) + tiny, Fraction(3), Fraction(-1)):
            self.assert_false(f(moment) in row)
            self.assert_true(f(moment) not in row)
        for moment in (num((-1, 2)) + tiny, num((7, 3)) - tiny):
            self.assert_true(f(moment) in row)
        self.assert_true((1, 3) in Span((1, 3), (1, 3)))
        self.assert_false((1, 4) in Span((1, 3), (1, 3)))

    def test_in_is_false_for_what_is_no_fraction(self):
        row = Span((-10, 1), (10, 1))
        for value in odd_values():
            self.assert_false(value in row)

    def test_and(self):
        self.assertEqual(span(0, 5) & span(3, 9), span(3, 5))
        self.assertEqual(span(3, 9) & span(0, 5), span(3, 5))
        self.assertEqual(span(0, 9) & span(3, 5), span(3, 5))
        self.assertEqual(span(0, 3) & span(3, 5), span(3, 3))
        self.assertEqual(span(3, 3) & span(3, 5), span(3, 3))
        self.assertEqual(span(4, 4) & span(3, 5), span(4, 4))
        self.assertIsNone(span(0, 2) & span(3, 5))
        self.assertIsNone(span(3, 5) & span(0, 2))
        self.assertIsNone(span(2, 2) & span(3, 3))

    def test_equality(self):
        left = span(0, 1)
        self.assert_true(left == span(0, 1))
        self.assert_false(left != span(0, 1))
        for right in [span(0, 2), span(1, 1), span(Fraction(1, 2), 1)]:
            self.assert_false(left == right)
            self.assert_true(left != right)
        for right in [((0, 1), (1, 1)), [], None, True, 0, "x"] + objects()[1:]:
            self.assert_false(left == right)
            self.assert_true(left != right)

    def test_moved(self):
        self.assertEqual(span(0, 1).moved((-1, 2)), Span((-1, 2), (1, 2)))
        self.assertEqual(span(2, 2).moved((0, 1)), span(2, 2))
        long = 7 ** 100
        self.assertEqual(span(0, 1).moved((long, 2)).moved((-long, 2)), span(0, 1))
        for value in not_fractions():
            self.assert_bad("by", span(0, 1).moved, value)

    def test_cut(self):
        row = span(0, 3)
        self.assertEqual(row.cut((1, 1)), (span(0, 1), span(1, 3)))
        self.assertEqual(row.cut((0, 1)), (span(0, 0), span(0, 3)))
        self.assertEqual(row.cut((3, 1)), (span(0, 3), span(3, 3)))
        self.assertEqual(span(2, 2).cut((2, 1)), (span(2, 2), span(2, 2)))
        self.assertIs(type(row.cut((1, 1))), tuple)
        for moment in ((-1, 10 ** 39), (31, 10), (-3, 1)):
            self.assert_mismatch(row.cut, moment)
        for value in not_fractions():
            self.assert_bad("moment", row.cut, value)

    def test_days(self):
        self.assertEqual(Span((-3, 2), (5, 2)).days(), [-1, 0, 1, 2])
        self.assertEqual(span(-2, 2).days(), [-2, -1, 0, 1, 2])
        self.assertEqual(span(3, 3).days(), [3])
        self.assertEqual(Span((1, 3), (2, 3)).days(), [])
        self.assertEqual(Span((1, 3), (1, 3)).days(), [])
        self.assertEqual(Span((-1, 3), (2, 3)).days(), [0])

    def test_many_days(self):
        self.assertEqual(span(1, 400).days(), list(range(1, 401)))
        self.assertEqual(len(Span((1, 2), (801, 2)).days()), 400)
        self.assertEqual(len(Span((10 ** 39, 1), (10 ** 39 + 399, 1)).days()), 400)
        self.assert_many(400, span(1, 401).days)
        self.assert_many(400, span(-(10 ** 39), 10 ** 39).days)

    def test_days_are_new_lists(self):
        row = span(0, 2)
        row.days().append(9)
        self.assertEqual(row.days(), [0, 1, 2])


def inside(moment, rows):
    """Tell whether one of the pairs of numbers contains the moment."""
    return any(first <= moment <= last for first, last in rows)


class ListsTest(SkyCase):
    def seeded(self, seed, many):
        source = random.Random(seed)
        rows = []
        for _ in range(many):
            first = Fraction(source.randint(-20, 20), source.choice((1, 2)))
            rows.append(span(first, first + source.choice((0, 0, 1, Fraction(1, 2), 3))))
        return rows

    def check_joined(self, answer, spans):
        """Check the form of joined spans and that they have the moments of the spans."""
        rows = pairs(answer)
        for row, after in zip(rows, rows[1:]):
            self.assertLess(row[1], after[0])
        for quarter in range(-100, 100):
            moment = Fraction(quarter, 4)
            self.assertEqual(inside(moment, rows), inside(moment, spans))

    def test_joined_cases(self):
        self.assertEqual(joined([]), [])
        self.assertEqual(pairs(joined([span(3, 5), span(0, 1), span(5, 6)])), [(0, 1), (3, 6)])
        self.assertEqual(pairs(joined([span(1, 1), span(1, 1)])), [(1, 1)])
        self.assertEqual(pairs(joined([span(0, 9), span(1, 2), span(3, 4)])), [(0, 9)])
        self.assertEqual(pairs(joined([span(0, 1), span(1, 1), span(1, 2)])), [(0, 2)])
        self.assertEqual(pairs(joined([span(2, 2), span(1, 1)])), [(1, 1), (2, 2)])
        self.assertEqual(pairs(joined([span(0, 3), span(0, 1), span(2, 5)])), [(0, 5)])

    def test_joined_in_any_order(self):
        rows = [span(0, 1), span(1, 1), span(3, 3), span(2, 4), span(5, 6)]
        for order in itertools.permutations(rows):
            answer = self.assert_unchanged([list(order)], joined, list(order))
            self.assertEqual(pairs(answer), [(0, 1), (2, 4), (5, 6)])

    def test_joined_seeded(self):
        for seed in range(20):
            spans = self.seeded(seed, seed)
            answer = self.assert_unchanged([spans], joined, spans)
            self.check_joined(answer, pairs(spans))

    def test_joined_of_many(self):
        apart = [span(2 * n, 2 * n + 1) for n in range(400)]
        self.assertEqual(joined(list(reversed(apart))), apart)
        self.assertEqual(pairs(joined([span(n, n + 1) for n in range(400)])), [(0, 400)])
        self.assert_bad("spans", joined, apart + [span(0, 1)])

    def test_gaps_cases(self):
        self.assertEqual(pairs(gaps([], span(0, 2))), [(0, 2)])
        self.assertEqual(gaps([], span(2, 2)), [])
        self.assertEqual(pairs(gaps([span(5, 5)], span(0, 10))), [(0, 5), (5, 10)])
        self.assertEqual(pairs(gaps([span(0, 0), span(10, 10)], span(0, 10))), [(0, 10)])
        self.assertEqual(pairs(gaps([span(-5, 2), span(3, 4), span(9, 12)], span(0, 10))), [(2, 3), (4, 9)])
        self.assertEqual(gaps([span(-5, 12)], span(0, 10)), [])
        self.assertEqual(gaps([span(0, 5), span(5, 10)], span(0, 10)), [])
        self.assertEqual(pairs(gaps([span(-9, -5), span(20, 21), span(30, 31)], span(0, 10))), [(0, 10)])
        self.assertEqual(pairs(gaps([span(-9, 0), span(10, 31)], span(0, 10))), [(0, 10)])
        self.assertEqual(pairs(gaps([span(5, 5), span(5, 7)], span(0, 10))), [(0, 5), (7, 10)])
        self.assertEqual(gaps([span(5, 5)], span(5, 5)), [])

    def test_gaps_seeded(self):
        for seed in range(20):
            spans = self.seeded(seed, seed // 2)
            within = span(-15, 18)
            answer = self.assert_unchanged([spans], gaps, spans, within)
            rows = pairs(answer)
            self.assertEqual(rows, sorted(rows))
            for first, last in rows:
                self.assertLess(first, last)
                self.assertTrue(-15 <= first and last <= 18)
                for end in (first, last):
                    self.assertTrue(end in (-15, 18) or inside(end, pairs(spans)))
            for eighth in range(-15 * 8 + 1, 18 * 8):
                moment = Fraction(eighth, 8)
                open_gap = any(first < moment < last for first, last in rows)
                self.assertEqual(open_gap, not inside(moment, pairs(spans)))

    def test_shared_cases(self):
        self.assertEqual(shared([], []), [])
        self.assertEqual(shared([span(0, 1)], []), [])
        self.assertEqual(pairs(shared([span(0, 2)], [span(2, 3)])), [(2, 2)])
        self.assertEqual(pairs(shared([span(0, 2), span(2, 4)], [span(1, 3)])), [(1, 3)])
        self.assertEqual(pairs(shared([span(1, 1), span(5, 5)], [span(0, 9), span(5, 5)])), [(1, 1), (5, 5)])
        self.assertEqual(shared([span(0, 1)], [span(2, 3)]), [])
        self.assertEqual(pairs(shared([span(0, 4)], [span(3, 6), span(1, 2)])), [(1, 2), (3, 4)])

    def test_shared_seeded(self):
        for seed in range(20):
            left = self.seeded(seed, seed)
            right = self.seeded(seed + 100, 7)
            answer = self.assert_unchanged([left, right], shared, left, right)
            common = [a & b for a in left for b in right]
            self.check_joined(answer, pairs([row for row in common if row is not None]))
            self.assertEqual(answer, shared(right, left))

    def test_shared_may_be_long(self):
        left = [span(10 * n, 10 * n + 6) for n in range(400)]
        right = [span(10 * n + 5, 10 * n + 11) for n in range(400)]
        answer = shared(left, right)
        self.assertEqual(len(answer), 799)
        self.assertEqual(pairs(answer)[:3], [(5, 6), (10, 11), (15, 16)])

    def test_told_lists_are_new(self):
        rows = [span(0, 1), span(3, 4)]
        other = [span(0, 9)]
        for call in (lambda: joined(rows), lambda: gaps(rows, span(0, 9)), lambda: shared(rows, other)):
            before = ends(call())
            call().append(None)
            call().clear()
            self.assertEqual(ends(call()), before)
            self.assertIsNot(call(), rows)
        self.assertEqual(ends(rows), [((0, 1), (1, 1)), ((3, 1), (4, 1))])

    def test_wrong_lists(self):
        good = span(0, 1)
        wrong = [[good] * 401, (good,), good, None, {}, [good, None], [((0, 1), (1, 1))], "a", [True]]
        wrong += [[good, thing] for thing in objects()[1:]]
        for spans in wrong:
            self.assert_bad("spans", joined, spans)
            self.assert_bad("spans", gaps, spans, good)
            self.assert_bad("spans", gaps, spans, None)
            self.assert_bad("left", shared, spans, [good])
            self.assert_bad("left", shared, spans, spans)
            self.assert_bad("right", shared, [good], spans)
        for within in [None, ((0, 1), (1, 1)), [good], True] + objects()[1:]:
            self.assert_bad("within", gaps, [good], within)
