"""Tests of meetings [4] [5] [6] [7] [8] [20] [21]."""

import itertools
import math
import random
from fractions import Fraction

from tests.helpers import SkyCase, f, not_fractions, num, objects
from wheelsky.cycles import Cycle
from wheelsky.meetings import is_meeting_paper, meeting_paper, meeting_rule, meeting_witness, meetings, next_meeting
from wheelsky.spans import Span

A = Cycle((0, 1))
B = Cycle((1, 4), (1, 2))
C = Cycle((1, 6), (2, 3))
ALWAYS = [[A, A], [B] * 6, [C, Cycle((1, 6), (2, 3))]]
NEVER = [
    [A, Cycle((0, 1), (1, 2))],
    [B, Cycle((1, 4), (1, 3))],
    [A, Cycle((1, 4), (1, 4)), Cycle((1, 6))],
    [A, B, C, Cycle((1, 4), (1, 4))],
    [A, B, Cycle((0, 1), (1, 10 ** 39))],
    [Cycle((1, 2)), Cycle((3, 2)), Cycle((5, 2), (1, 2))],
]
EVERY = [
    ([A, B, C], (2, 1), (12, 1)),
    ([A, Cycle((1, 1))], (0, 1), (1, 1)),
    ([Cycle((1, 3)), Cycle((-1, 3))], (0, 1), (3, 2)),
    ([B, B, A, A], (2, 1), (4, 1)),
    ([A, Cycle((-1, 5), (1, 5))], (1, 1), (5, 1)),
    ([A, B, C, B, C, A], (2, 1), (12, 1)),
    ([Cycle((10 ** 39, 1)), Cycle((10 ** 39 + 1, 1), (1, 3))], (2, 3), (1, 1)),
]


def seeded_lists(seed, many, size=6):
    """Return meeting lists of all kinds."""
    source = random.Random(seed)
    lists = []
    for _ in range(many):
        count = source.randint(2, 6)
        parts = source.choice((1, 2, 3, 4))
        rows = []
        for _ in range(count):
            rate = f(source.randint(-size, size), source.randint(1, size))
            rows.append(Cycle(rate, f(source.randint(0, parts - 1), parts)))
        lists.append(rows)
    return lists


def meet(cycles, moment):
    """Tell whether the cycles meet at a moment."""
    return len({cycle.place(moment) for cycle in cycles}) == 1


class RuleTest(SkyCase):
    def check(self, cycles):
        """Check the rule and the certificate of the cycles; return the kind."""
        rule = self.assert_unchanged([cycles], meeting_rule, cycles)
        paper = self.assert_unchanged([cycles], meeting_paper, cycles)
        self.assertIs(type(paper), tuple)
        self.assertEqual(meeting_paper(list(cycles)), paper)
        self.assert_true(self.assert_unchanged([cycles], is_meeting_paper, cycles, paper))
        getattr(self, "check_" + paper[0])(cycles, rule, paper)
        return paper[0]

    def check_always(self, cycles, rule, paper):
        self.assertEqual((rule, paper), (((0, 1), None), ("always",)))
        self.assertTrue(all(cycle == cycles[0] for cycle in cycles))

    def check_never(self, cycles, rule, paper):
        self.assertIsNone(rule)
        self.assertEqual(len(paper), 2)
        weights = paper[1]
        self.assertEqual([type(weight) for weight in weights], [int] * len(cycles))
        self.assertEqual(sum(weights), 0)
        self.assertEqual(sum(w * num(cycle.rate) for w, cycle in zip(weights, cycles)), 0)
        starts = sum(w * num(cycle.start) for w, cycle in zip(weights, cycles))
        self.assertNotEqual(Fraction(starts).denominator, 1)

    def check_every(self, cycles, rule, paper):
        self.assertEqual(rule, paper[1:3])
        first, interval, turns = paper[1:]
        self.assert_fraction(first)
        self.assert_fraction(interval)
        self.assertTrue(0 <= num(first) < num(interval))
        self.assertTrue(meet(cycles, first))
        self.assertTrue(meet(cycles, f(num(first) - 7 * num(interval))))
        self.assertEqual(math.gcd(*turns), 1)
        made = [(num(cycle.rate) - num(cycles[0].rate)) * num(interval) for cycle in cycles]
        self.assertEqual(list(turns), made)

    def test_kinds(self):
        for kind, lists in (("always", ALWAYS), ("never", NEVER), ("every", [row[0] for row in EVERY])):
            for cycles in lists:
                for order in itertools.islice(itertools.permutations(cycles), 24):
                    self.assertEqual(self.check(list(order)), kind)

    def test_rules(self):
        for cycles, first, interval in EVERY:
            self.assertEqual(meeting_rule(cycles), (first, interval))

    def test_seeded(self):
        kinds = [self.check(cycles) for cycles in seeded_lists(20, 300)]
        self.assertGreater(kinds.count("never"), 20)
        self.assertGreater(kinds.count("every"), 20)

    def test_long_numbers(self):
        for cycles in seeded_lists(21, 40, 10 ** 39):
            self.check(cycles)

    def test_no_meeting_is_missed(self):
        # The rates have the denominators 1 to 3, so all meetings come again after 6 days.
        for cycles in seeded_lists(22, 200, 3):
            rule = meeting_rule(cycles)
            moving = [cycle for cycle in cycles if cycle.rate != cycles[0].rate]
            if not moving:
                self.assertEqual(rule is not None, meet(cycles, (0, 1)))
                continue
            found = [moment for moment in self.pair_meetings(cycles[0], moving[0], 6) if meet(cycles, f(moment))]
            expected = []
            if rule is not None:
                expected = [num(rule[0]) + k * num(rule[1]) for k in range(int(6 / num(rule[1])) + 1)]
            self.assertEqual(found, [moment for moment in expected if moment < 6])

    def pair_meetings(self, first, second, until):
        """Return the meetings of two cycles from 0 to before `until`."""
        rate = num(second.rate) - num(first.rate)
        start = num(second.start) - num(first.start)
        turns = range(-math.ceil(abs(rate)) * until - 2, math.ceil(abs(rate)) * until + 3)
        found = sorted((turn - start) / rate for turn in turns)
        return [moment for moment in found if 0 <= moment < until]

    def test_wrong_lists(self):
        span = Span((0, 1), (1, 1))
        wrong = [[], [A], [A] * 7, (A, A), A, None, {}, [A, None], [A, (1, 2)], "ab", [A, True], 2]
        wrong += [[A, thing] for thing in objects() if not isinstance(thing, Cycle)]
        for cycles in wrong:
            self.assert_bad("cycles", meeting_rule, cycles)
            self.assert_bad("cycles", meeting_paper, cycles)
            self.assert_bad("cycles", is_meeting_paper, cycles, ("always",))
            self.assert_bad("cycles", is_meeting_paper, cycles, None)
            self.assert_bad("cycles", meetings, cycles, span)
            self.assert_bad("cycles", meetings, cycles, None)
            self.assert_bad("cycles", next_meeting, cycles, None)
            self.assert_bad("cycles", meeting_witness, cycles, None)


class JudgeTest(SkyCase):
    def test_every_with_one_thing_changed(self):
        cycles = [A, B, C]
        right = ("every", (2, 1), (12, 1), (0, 3, 2))
        self.assert_true(is_meeting_paper(cycles, right))
        wrong = [("every", (14, 1), (12, 1), (0, 3, 2)), ("every", (-10, 1), (12, 1), (0, 3, 2))]
        wrong += [("every", (2, 1), (24, 1), (0, 6, 4)), ("every", (2, 1), (-12, 1), (0, -3, -2))]
        wrong += [("every", (2, 1), (12, 1), (0, 3, -2)), ("every", (2, 1), (12, 1), (0, 3))]
        wrong += [("every", (2, 1), (12, 1), (0, 3, 2, 0)), ("every", (2, 1), (12, 1), [0, 3, 2])]
        wrong += [("every", (2, 1), (12, 1), (1, 4, 3)), ("every", (2, 1), (12, 1), (False, 3, 2))]
        wrong += [("every", (3, 1), (12, 1), (0, 3, 2)), ("every", (2, 1), (12, 1)), ["every", (2, 1), (12, 1), (0, 3, 2)]]
        wrong += [("never", (2, 1), (12, 1), (0, 3, 2)), ("every", (2, 1), (12, 1), (0, 3, 2), None)]
        wrong += [("every", 2, 12, (0, 3, 2)), ("every", (4, 2), (12, 1), (0, 3, 2)), ("every", (0, 1), (0, 1), (0, 0, 0))]
        wrong += [("every", (2, 1), (6, 1), (0, 1, 1)), ("every", (2, 1), (12, 1), None), (None, (2, 1), (12, 1), (0, 3, 2))]
        for paper in wrong:
            self.assert_false(is_meeting_paper(cycles, paper))

    def test_first_is_less_than_interval(self):
        cycles = [A, Cycle((1, 1))]
        self.assert_false(is_meeting_paper(cycles, ("every", (1, 1), (1, 1), (0, 1))))
        self.assert_false(is_meeting_paper(cycles, ("every", (2, 1), (1, 1), (0, 1))))
        self.assert_false(is_meeting_paper(cycles, ("every", (-1, 1), (1, 1), (0, 1))))
        self.assert_false(is_meeting_paper(cycles, ("every", (0, 1), (-1, 1), (0, -1))))

    def test_true_is_not_one(self):
        cycles = [A, Cycle((1, 1))]
        self.assert_true(is_meeting_paper(cycles, ("every", (0, 1), (1, 1), (0, 1))))
        self.assert_false(is_meeting_paper(cycles, ("every", (0, 1), (1, 1), (0, True))))
        self.assert_false(is_meeting_paper(cycles, ("every", (0, 1), (1, True), (0, 1))))
        self.assert_false(is_meeting_paper(cycles, ("every", (False, 1), (1, 1), (0, 1))))

    def test_other_weights_of_never(self):
        cycles = [A, Cycle((1, 4), (1, 4)), Cycle((1, 6))]
        for weights in ((1, 2, -3), (-1, -2, 3), (3, 6, -9), (10 ** 300 + 1, 2 * 10 ** 300 + 2, -3 * 10 ** 300 - 3)):
            self.assert_true(is_meeting_paper(cycles, ("never", weights)))
        # Twice the weights make an integer of the starts, so they show nothing.
        for weights in ((2, 4, -6), (0, 0, 0), (1, 2, -2), (1, 2), (1, 2, -3, 0), [1, 2, -3], (1, 2, -3.0), None, ()):
            self.assert_false(is_meeting_paper(cycles, ("never", weights)))
        self.assert_false(is_meeting_paper(cycles, ("never", (1, 2, -3), None)))
        # The sum of weight * rate is 0 and the starts leave 1/4, but the sum of the weights is not 0.
        self.assert_false(is_meeting_paper([A, A, Cycle((0, 1), (1, 4))], ("never", (1, 1, 1))))
        self.assert_true(is_meeting_paper([A, A, Cycle((0, 1), (1, 4))], ("never", (1, -2, 1))))
        self.assert_false(is_meeting_paper([A, A, Cycle((0, 1), (1, 4))], ("never", (True, -2, 1))))
        self.assert_false(is_meeting_paper([A, A, Cycle((1, 3), (1, 4))], ("never", (1, -2, 1))))

    def test_always(self):
        self.assert_true(is_meeting_paper([B, B], ("always",)))
        self.assert_false(is_meeting_paper([B, B], ("always", None)))
        self.assert_false(is_meeting_paper([B, B], ["always"]))
        self.assert_false(is_meeting_paper([B, B], "always"))
        self.assert_false(is_meeting_paper([B, C], ("always",)))
        self.assert_false(is_meeting_paper([B, Cycle((1, 4))], ("always",)))
        self.assert_false(is_meeting_paper([B, B], ("every", (0, 1), (1, 1), (0, 0))))
        self.assert_false(is_meeting_paper([B, B], ("never", (1, -1))))

    def test_judges_all(self):
        for cycles in ([A, B, C], NEVER[2]):
            self.assert_judges_all(lambda paper: is_meeting_paper(cycles, paper))
        self.assert_true(is_meeting_paper([A, A], ("always",)))


class MomentsTest(SkyCase):
    def test_meetings(self):
        self.assertEqual(meetings([A, B, C], Span((0, 1), (30, 1))), [(2, 1), (14, 1), (26, 1)])
        self.assertEqual(meetings([A, B, C], Span((2, 1), (14, 1))), [(2, 1), (14, 1)])
        self.assertEqual(meetings([A, B, C], Span((2, 1), (2, 1))), [(2, 1)])
        self.assertEqual(meetings([A, B, C], Span((3, 1), (13, 1))), [])
        self.assertEqual(meetings([A, B, C], Span((-25, 1), (-9, 1))), [(-22, 1), (-10, 1)])
        for cycles in NEVER:
            self.assertEqual(meetings(cycles, Span((0, 1), (10 ** 39, 1))), [])

    def test_endless(self):
        for cycles in ALWAYS:
            for last in ((0, 1), (1, 1), (10 ** 39, 1)):
                self.assert_endless(meetings, cycles, Span((0, 1), last))

    def test_many(self):
        cycles = [A, Cycle((1, 1))]
        self.assertEqual(meetings(cycles, Span((1, 1), (400, 1))), [f(k) for k in range(1, 401)])
        self.assert_many(400, meetings, cycles, Span((1, 1), (401, 1)))
        self.assert_many(400, meetings, cycles, Span((0, 1), (10 ** 30, 1)))

    def test_next_meeting(self):
        self.assertEqual(next_meeting([A, B, C], (2, 1)), (2, 1))
        self.assertEqual(next_meeting([A, B, C], (21, 10)), (14, 1))
        self.assertEqual(next_meeting([A, B, C], (-11, 1)), (-10, 1))
        for cycles in NEVER:
            self.assertIsNone(next_meeting(cycles, (0, 1)))
        for cycles in ALWAYS:
            self.assertEqual(next_meeting(cycles, (-5, 7)), (-5, 7))

    def test_next_meeting_seeded(self):
        for cycles in seeded_lists(23, 60):
            rule = meeting_rule(cycles)
            moment = f(-(10 ** 90), 7)
            answer = next_meeting(cycles, moment)
            if rule is not None and rule[1] is not None:
                self.assertTrue(meet(cycles, answer))
                self.assertTrue(0 <= num(answer) - num(moment) < num(rule[1]))

    def test_witness(self):
        self.assertEqual(meeting_witness([A, B, C], (14, 1)), ((0, 1), (0, 4, 3)))
        self.assertEqual(meeting_witness([A, B, C], (-10, 1)), ((0, 1), (0, -2, -1)))
        self.assertEqual(meeting_witness([B, B], (1, 1)), ((3, 4), (0, 0)))
        self.assertIsNone(meeting_witness([A, B, C], (15, 1)))
        for cycles in seeded_lists(24, 60):
            moment = next_meeting(cycles, (-99, 7))
            if moment is None:
                self.assertIsNone(meeting_witness(cycles, (5, 1)))
                continue
            place, counts = self.assert_unchanged([cycles], meeting_witness, cycles, moment)
            for cycle, count in zip(cycles, counts):
                self.assertEqual(num(cycle.turns(moment)), count + num(place))

    def test_wrong_forms(self):
        for value in not_fractions():
            self.assert_bad("moment", next_meeting, [A, A], value)
            self.assert_bad("moment", meeting_witness, [A, B], value)
        for value in [None, ((0, 1), (1, 1)), [], True] + objects()[1:]:
            self.assert_bad("span", meetings, [A, A], value)

    def test_told_lists_are_new(self):
        cycles = [A, B, C]
        span = Span((0, 1), (15, 1))
        meetings(cycles, span).clear()
        self.assertEqual(meetings(cycles, span), [(2, 1), (14, 1)])
        rule = meeting_rule(cycles)
        cycles.append(NEVER[0][1])
        self.assertEqual(rule, ((2, 1), (12, 1)))
        self.assertIsNone(meeting_rule(cycles))
