"""Tests of motions [2] [4] [5] [6] [10] [14] [15] [37] [38] [39]."""

import itertools
import math
import random
from fractions import Fraction

from tests.helpers import SkyCase, ends, f, not_fractions, num, objects, objects_but
from tests.test_slots import seeded_knots, slow_carried
from wheelsky.cycles import Cycle
from wheelsky.motions import Motion, back_spans, even_motion, quickest, still_spans
from wheelsky.slots import Slot, even_slot
from wheelsky.spans import Span

EVEN = even_slot()
SLOT = Slot([((0, 1), (0, 1)), ((1, 2), (1, 4))])
# Two knots with equal lifts, at which nothing changes.
FLAT = Slot([((0, 1), (1, 3)), ((1, 2), (1, 3))])
DAY = Cycle((1, 1))
STILL = Cycle((0, 1), (1, 2))
ONE = (1, 1)
TERM = (ONE, DAY, SLOT)
NOT_MOTIONS = [None, True, 1, "x", [], (), {}, [TERM]] + objects_but(Motion)
NOT_SPANS = [None, ((0, 1), (1, 1)), [], True, "x"] + objects_but(Span)


def span(first, last):
    """Return the span between two numbers."""
    return Span(f(first), f(last))


def slow_turns(terms, moment):
    """Return the turns of the terms at a number, from the meaning."""
    total = Fraction(0)
    for weight, cycle, slot in terms:
        total += num(weight) * slow_carried(slot.knots, num(cycle.start) + num(cycle.rate) * moment)
    return total


def slow_visits(terms, row):
    """Return the moments of all visits in a span, a moment for each visit."""
    first, last = num(row.first), num(row.last)
    found = []
    for _, cycle, slot in terms:
        if len(slot.knots) < 2 or cycle.rate == (0, 1):
            continue
        start, rate = num(cycle.start), num(cycle.rate)
        low, high = sorted((start + rate * first, start + rate * last))
        for place, _ in slot.knots:
            for turn in range(math.floor(low) - 1, math.ceil(high) + 1):
                if low <= turn + num(place) <= high:
                    found.append((turn + num(place) - start) / rate)
    return found


def slow_breaks(terms, row):
    """Return the breaks from their meaning."""
    return sorted({num(row.first), num(row.last)} | set(slow_visits(terms, row)))


def slow_pieces(terms, row):
    """Return the pieces as numbers."""
    rows = slow_breaks(terms, row)
    return [(a, b, slow_turns(terms, a), (slow_turns(terms, b) - slow_turns(terms, a)) / (b - a))
            for a, b in zip(rows, rows[1:])]


def slow_joined(pieces):
    """Return the ends of the joined form of pieces in order."""
    found = []
    for first, last, _, _ in pieces:
        if found and found[-1][1] == first:
            found[-1] = (found[-1][0], last)
        else:
            found.append((first, last))
    return [(f(first), f(last)) for first, last in found]


def seeded_motions(seed, many):
    """Return tuples (terms, span)."""
    source = random.Random(seed)
    found = []
    for _ in range(many):
        terms = []
        for _ in range(source.randint(1, 6)):
            cycle = Cycle(f(source.randint(-3, 3), source.choice((1, 2, 3))), f(source.randint(0, 5), 6))
            slot = source.choice([EVEN, SLOT, FLAT] + [Slot(knots) for knots in seeded_knots(source.random(), 1)])
            terms.append((f(source.randint(-3, 3), source.choice((1, 2))), cycle, slot))
        first = Fraction(source.randint(-20, 20), 6)
        found.append((terms, span(first, first + source.choice((0, Fraction(1, 7), 1, 2, 3)))))
    return found


class MotionTest(SkyCase):
    def test_example(self):
        motion = Motion([((1, 1), Cycle((1, 4)), SLOT)]) - even_motion(Cycle((1, 8)))
        expected = [((1, 1), (2, 1), (1, 4), (1, 4)), ((2, 1), (3, 1), (1, 2), (0, 1))]
        self.assertEqual(motion.pieces(span(1, 3)), expected)

    def test_turns_and_place(self):
        for terms, row in seeded_motions(1, 100):
            motion = Motion(terms)
            for moment in (row.first, row.last, (10 ** 39, 7), f(int("9" * 80), -11)):
                turns = motion.turns(moment)
                self.assert_fraction(turns)
                self.assertEqual(turns, f(slow_turns(terms, num(moment))))
                self.assertEqual(motion.place(moment), f(num(turns) - math.floor(num(turns))))

    def test_sizes(self):
        self.assertEqual(len(Motion([TERM]).terms), 1)
        self.assertEqual(len(Motion([TERM] * 6).terms), 6)
        self.assert_bad("terms", Motion, [])
        self.assert_bad("terms", Motion, [TERM] * 7)

    def test_wrong_terms(self):
        wrong = [(TERM,), TERM, None, True, 1, "x", {}, [list(TERM)], [TERM[:2]], [TERM + (1,)], [()], [None]]
        wrong += [[TERM, (weight, DAY, SLOT)] for weight in not_fractions()]
        wrong += [[(ONE, thing, SLOT)] for thing in objects_but(Cycle) + [None, (1, 2)]]
        wrong += [[TERM, (ONE, DAY, thing)] for thing in objects_but(Slot) + [None, [((0, 1), (0, 1))]]]
        wrong += [[(ONE, SLOT, DAY)], [(DAY, ONE, SLOT)], [TERM, None], even_motion(DAY)] + objects()
        for terms in wrong:
            self.assert_bad("terms", Motion, terms)

    def test_lists_are_new_and_stay(self):
        terms = [TERM, (ONE, STILL, EVEN)]
        motion = self.assert_unchanged([terms], Motion, terms)
        row = span(0, 3)
        pieces, breaks = motion.pieces(row), motion.breaks(row)
        terms.clear()
        motion.terms.clear()
        motion.breaks(row).clear()
        motion.pieces(row).clear()
        quickest(motion, row)[1].clear()
        self.assertEqual(motion.terms, [TERM, (ONE, STILL, EVEN)])
        self.assertIs(type(motion.terms), list)
        self.assertEqual((motion.pieces(row), motion.breaks(row)), (pieces, breaks))

    def test_forms(self):
        motion = Motion([TERM])
        for moment in not_fractions():
            self.assert_bad("moment", motion.turns, moment)
            self.assert_bad("moment", motion.place, moment)
            self.assert_bad("factor", motion.scaled, moment)
        for row in NOT_SPANS:
            self.assert_bad("span", motion.breaks, row)
            self.assert_bad("span", motion.pieces, row)
            for call in (still_spans, back_spans, quickest):
                self.assert_bad("span", call, motion, row)
        for thing in NOT_MOTIONS:
            for call in (still_spans, back_spans, quickest):
                self.assert_bad("motion", call, thing, None)
                self.assert_bad("motion", call, thing, span(0, 1))
        for cycle in objects_but(Cycle) + [None, (1, 2)]:
            self.assert_bad("cycle", even_motion, cycle)


class OperatorsTest(SkyCase):
    def test_terms_in_order(self):
        a, b = Motion([TERM, ((2, 3), STILL, EVEN)]), Motion([((-1, 2), Cycle((1, 7)), FLAT), ((0, 1), DAY, EVEN)])
        self.assertEqual((a + b).terms, a.terms + b.terms)
        self.assertEqual((-a).terms, [((-1, 1), DAY, SLOT), ((-2, 3), STILL, EVEN)])
        self.assertEqual((a - b).terms, a.terms + [((1, 2), Cycle((1, 7)), FLAT), ((0, 1), DAY, EVEN)])
        for made in (a + b, a - b, -a, a.scaled((2, 1))):
            self.assertIs(type(made), Motion)
        self.assertEqual((len(a.terms), len(b.terms)), (2, 2))

    def test_too_many(self):
        three, four = Motion([TERM] * 3), Motion([TERM] * 4)
        self.assertEqual(len((three + three).terms), 6)
        self.assertEqual(len((three - three).terms), 6)
        for left, right in ((three, four), (four, three), (Motion([TERM]), Motion([TERM] * 6))):
            self.assert_many(6, lambda: left + right)
            self.assert_many(6, lambda: left - right)
        self.assertEqual(len((-Motion([TERM] * 6)).terms), 6)

    def test_turns_of_sums(self):
        rows = seeded_motions(2, 60)
        for (left, row), (right, _) in zip(rows, rows[1:]):
            if len(left) + len(right) <= 6:
                a, b = Motion(left), Motion(right)
                for moment in (row.first, row.last):
                    at = num(moment)
                    self.assertEqual((a + b).turns(moment), f(slow_turns(left, at) + slow_turns(right, at)))
                    self.assertEqual((a - b).turns(moment), f(slow_turns(left, at) - slow_turns(right, at)))
                    self.assertEqual((-a).turns(moment), f(-slow_turns(left, at)))

    def test_scaled(self):
        motion = Motion([TERM, ((2, 3), STILL, EVEN)])
        self.assertEqual(motion.scaled((-3, 2)).terms, [((-3, 2), DAY, SLOT), ((-1, 1), STILL, EVEN)])
        nothing = motion.scaled((0, 1))
        self.assertEqual(nothing.terms, [((0, 1), DAY, SLOT), ((0, 1), STILL, EVEN)])
        self.assertEqual(nothing.turns((1, 3)), (0, 1))
        # Its visits count all the same.
        self.assertEqual(nothing.breaks(span(0, 1)), [(0, 1), (1, 2), (1, 1)])
        self.assertEqual(motion.scaled((10 ** 39, 7)).terms[1][0], f(2 * 10 ** 39, 21))

    def test_even_motion(self):
        motion = even_motion(Cycle((-1, 3), (1, 2)))
        self.assertEqual(motion.terms, [(ONE, Cycle((-1, 3), (1, 2)), EVEN)])
        self.assertEqual(motion.turns((3, 1)), (-1, 2))
        self.assertEqual(motion.place((3, 1)), (1, 2))


class BreaksTest(SkyCase):
    def test_seeded(self):
        for terms, row in seeded_motions(3, 150):
            motion = Motion(terms)
            rows = slow_breaks(terms, row)
            self.assertEqual(motion.breaks(row), [f(moment) for moment in rows])
            pieces = motion.pieces(row)
            self.assertEqual([tuple(num(item) for item in piece) for piece in pieces], slow_pieces(terms, row))
            self.assertEqual(len(pieces), len(rows) - 1)
            for first, last, turns, rate in pieces:
                middle = (num(first) + num(last)) / 2
                self.assertEqual(slow_turns(terms, middle), num(turns) + num(rate) * (middle - num(first)))
                self.assert_fraction(rate)

    def test_length_zero(self):
        for moment in (0, Fraction(1, 2), Fraction(1, 3), -1):
            for terms in ([TERM], [TERM, TERM], [(ONE, STILL, SLOT)], [(ONE, DAY, EVEN)]):
                motion = Motion(terms)
                self.assertEqual(motion.breaks(span(moment, moment)), [f(moment)])
                self.assertEqual(motion.pieces(span(moment, moment)), [])
                self.assertEqual(still_spans(motion, span(moment, moment)), [])
                self.assertEqual(back_spans(motion, span(moment, moment)), [])
                self.assertIsNone(quickest(motion, span(moment, moment)))

    def test_visits_at_the_ends(self):
        self.assertEqual(Motion([TERM]).breaks(span(0, 1)), [(0, 1), (1, 2), (1, 1)])
        self.assertEqual(Motion([TERM]).breaks(span(Fraction(1, 2), Fraction(3, 2))), [(1, 2), (1, 1), (3, 2)])
        self.assertEqual(Motion([TERM]).breaks(span(Fraction(1, 3), Fraction(2, 5))), [(1, 3), (2, 5)])

    def test_what_makes_no_visit(self):
        for terms in ([(ONE, DAY, EVEN)], [(ONE, STILL, SLOT)], [(ONE, Cycle((0, 1)), SLOT)],
                      [(ONE, Cycle((10 ** 30, 1)), Slot([((0, 1), (7, 3))]))]):
            self.assertEqual(Motion(terms).breaks(span(-3, 10 ** 30)), [(-3, 1), (10 ** 30, 1)])

    def test_equal_lifts_and_terms_that_cancel(self):
        expected = [(0, 1), (1, 2), (1, 1)]
        self.assertEqual(Motion([(ONE, DAY, FLAT)]).breaks(span(0, 1)), expected)
        self.assertEqual((Motion([TERM]) - Motion([TERM])).breaks(span(0, 1)), expected)
        self.assertEqual(Motion([((0, 1), DAY, SLOT)]).breaks(span(0, 1)), expected)

    def test_many(self):
        # Two visits a day: at 0, 1/2, 1, ...
        for terms, least in (([TERM], 1), ([((0, 1), DAY, SLOT)], 1), ([(ONE, DAY, FLAT)], 1),
                             ([(ONE, Cycle((-1, 1)), SLOT)], 1), ([(ONE, STILL, SLOT), TERM], 1)):
            motion = Motion(terms)
            self.assertEqual(len(motion.breaks(span(0, Fraction(199, 2)))), 200)
            self.assertEqual(len(motion.breaks(span(Fraction(1, 4), Fraction(401, 4)))), 202)
            for row in (span(0, 100), span(0, 10 ** 30), span(Fraction(-1, 2), Fraction(199, 2))):
                self.check_many(motion, row)

    def check_many(self, motion, row):
        self.assert_many(200, motion.breaks, row)
        self.assert_many(200, motion.pieces, row)
        for call in (still_spans, back_spans, quickest):
            self.assert_many(200, call, motion, row)

    def test_two_visits_at_one_moment_count_twice(self):
        both = Motion([TERM]) - Motion([TERM])
        self.assertEqual(len(both.breaks(span(0, Fraction(99, 2)))), 100)
        self.check_many(both, span(0, 50))
        self.assertEqual(len(both.pieces(span(Fraction(1, 4), Fraction(201, 4)))), 101)
        self.check_many(both, span(Fraction(1, 4), Fraction(203, 4)))

    def test_counted_over_all_terms(self):
        # One term makes 2 visits a day, the other one 3 in two days.
        other = (ONE, Cycle((1, 2), (1, 7)), Slot([(f(k, 3), f(k, 5)) for k in range(3)]))
        motion = Motion([TERM, other])
        for last in (50, 57, Fraction(396, 7), Fraction(397, 7), Fraction(2003, 35), 58):
            row = span(0, last)
            if len(slow_visits(motion.terms, row)) <= 200:
                self.assertEqual(motion.breaks(row), [f(moment) for moment in slow_breaks(motion.terms, row)])
            else:
                self.check_many(motion, row)
        quick = Motion([(ONE, Cycle((-(10 ** 39), 1)), SLOT)] * 6)
        self.check_many(quick, span(0, 1))

    def test_long_numbers(self):
        cycle = Cycle((1, 10 ** 39 - 1), (1, 10 ** 39))
        knots = seeded_knots(9, 1, 39)[0]
        terms = [((7, 10 ** 38), cycle, Slot(knots)), (ONE, Cycle((-2, 10 ** 39 + 1)), SLOT)]
        row = span(-10 ** 39, 5 * 10 ** 39)
        pieces = Motion(terms).pieces(row)
        self.assertEqual([tuple(num(item) for item in piece) for piece in pieces], slow_pieces(terms, row))


class RatesTest(SkyCase):
    def test_seeded(self):
        found = 0
        for terms, row in seeded_motions(5, 150):
            motion = Motion(terms)
            pieces = slow_pieces(terms, row)
            self.assertEqual(ends(still_spans(motion, row)), slow_joined([p for p in pieces if p[3] == 0]))
            self.assertEqual(ends(back_spans(motion, row)), slow_joined([p for p in pieces if p[3] < 0]))
            if not pieces:
                self.assertIsNone(quickest(motion, row))
                continue
            rate, spans = quickest(motion, row)
            best = max(piece[3] for piece in pieces)
            self.assertEqual(rate, f(best))
            self.assertEqual(ends(spans), slow_joined([p for p in pieces if p[3] == best]))
            found += len(spans)
        self.assertGreater(found, 150)

    def test_neighbouring_pieces_are_joined(self):
        for weight, call in (((0, 1), still_spans), ((-1, 1), back_spans)):
            motion = Motion([(weight, DAY, FLAT)])
            self.assertEqual(len(motion.pieces(span(0, 3))), 6)
            self.assertEqual(call(motion, span(0, 3)), [span(0, 3)])
        self.assertEqual(quickest(Motion([(ONE, DAY, FLAT)]), span(0, 3)), ((1, 1), [span(0, 3)]))
        # Pieces of unequal negative rates are joined too.
        back = Motion([((-1, 1), DAY, SLOT)])
        self.assertEqual([piece[3] for piece in back.pieces(span(0, 1))], [(-3, 2), (-1, 2)])
        self.assertEqual(back_spans(back, span(0, 2)), [span(0, 2)])

    def test_a_greatest_rate_below_zero(self):
        back = Motion([((-1, 1), DAY, SLOT)])
        half = Fraction(1, 2)
        self.assertEqual(quickest(back, span(0, 2)), ((-1, 2), [span(half, 1), span(1 + half, 2)]))

    def test_still_and_back(self):
        # The slot gives the slopes 2 and 0, and 3 and -1.
        stands = Motion([(ONE, DAY, Slot([((0, 1), (0, 1)), ((1, 2), (1, 2))]))])
        half = Fraction(1, 2)
        self.assertEqual(still_spans(stands, span(0, 2)), [span(half, 1), span(1 + half, 2)])
        self.assertEqual(back_spans(stands, span(0, 2)), [])
        backs = Motion([(ONE, DAY, Slot([((0, 1), (0, 1)), ((1, 2), (1, 1))]))])
        self.assertEqual(still_spans(backs, span(0, 2)), [])
        self.assertEqual(back_spans(backs, span(Fraction(3, 4), 2)), [span(Fraction(3, 4), 1), span(1 + half, 2)])
        self.assertEqual(quickest(backs, span(0, 1)), ((3, 1), [span(0, half)]))

    def test_answers_have_their_kinds(self):
        for moment, row in itertools.product((0, 1), (span(0, 2), span(0, 0))):
            for answer in (still_spans(Motion([TERM]), row), back_spans(Motion([TERM]), row)):
                self.assertIs(type(answer), list)
        answer = quickest(Motion([TERM]), span(0, 2))
        self.assertEqual((type(answer), type(answer[1])), (tuple, list))

    def test_two_hundred_pieces(self):
        motion = Motion([TERM])
        row = span(Fraction(1, 4), Fraction(401, 4))
        self.assertEqual(len(motion.pieces(row)), 201)
        self.assertEqual(len(quickest(motion, row)[1]), 101)
        self.assertEqual(quickest(motion, row)[0], (3, 2))
