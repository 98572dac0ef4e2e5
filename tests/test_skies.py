"""Tests of skies [3] [4] [5] [6] [10] [18] [19]."""

import math
import random

from tests.helpers import SkyCase, f, not_fractions, num, objects, odd_values
from wheelsky.cycles import Cycle
from wheelsky.errors import Still
from wheelsky.skies import Sky

SUN = Cycle((1, 365), (1, 4))
MOON = Cycle((1, 27), (2, 3))
NODE = Cycle((-1, 6798))
STILL = Cycle((0, 1), (1, 2))
ROWS = [("sun", SUN), ("moon", MOON), ("node", NODE), ("star", STILL)]
EIGHT = [(f"c{number}", Cycle(f(number, 3))) for number in range(8)]
NAMES = ["a", "z", "a0", "abcdefghijkl", "a12345678901", "zzz9"]
NOT_NAMES = ["", "A", "0a", "abcdefghijklm", "a b", "a-b", "a\n", "\na", "a_", "_", "aB", "~", "a" * 13]
NOT_NAMES += [1, None, True, ("a",), ["a"], {}, {"a": 1}, b"a", "\u00e9", "a\u0661"]


class SkyTest(SkyCase):
    def test_rows_and_names(self):
        sky = self.assert_unchanged([ROWS], Sky, ROWS)
        self.assertEqual(sky.names, ["sun", "moon", "node", "star"])
        self.assertEqual(list(sky), ROWS)
        self.assertEqual(sky.count(), 4)
        self.assertEqual(sky.cycle("moon"), MOON)
        self.assertEqual((Sky([]).names, list(Sky([])), Sky([]).count()), ([], [], 0))
        self.assertEqual((Sky(EIGHT).count(), list(Sky(EIGHT))), (8, EIGHT))

    def test_names_of_all_lengths(self):
        sky = Sky([(name, SUN) for name in NAMES])
        self.assertEqual(sky.names, NAMES)
        for name in NAMES:
            self.assert_true(name in sky)
            self.assertEqual(sky.cycle(name), SUN)

    def test_wrong_rows(self):
        wrong = [EIGHT + [("x", SUN)], tuple(ROWS), ("a", SUN), None, {}, "a", 1, True, [SUN], ["a"], [["a", SUN]]]
        wrong += [[("a",)], [("a", SUN, SUN)], [(SUN, "a")], [("a", (1, 2))], [("a", None)], [()], [None]]
        wrong += [[("a", SUN), (name, SUN)] for name in NOT_NAMES] + objects()
        # One wrong row goes ahead of names that are taken.
        wrong += [[("a", SUN), ("a", SUN), ("b", None)], [("a", SUN)] * 9]
        for rows in wrong:
            self.assert_bad("rows", Sky, rows)

    def test_taken_names(self):
        self.assert_taken("a", Sky, [("a", SUN), ("a", SUN)])
        self.assert_taken("b", Sky, [("a", SUN), ("b", SUN), ("b", MOON), ("a", MOON)])
        self.assert_taken("a", Sky, [("a", SUN), ("b", SUN), ("a", MOON), ("b", MOON)])

    def test_later_changes_have_no_effect(self):
        rows = list(ROWS)
        sky = Sky(rows)
        rows.clear()
        sky.names.append("more")
        sky.names.clear()
        sky.places((0, 1)).clear()
        sky.rounds().clear()
        self.assertEqual(list(sky), ROWS)
        self.assertEqual(sky.names, ["sun", "moon", "node", "star"])
        self.assertEqual(len(sky.places((0, 1))), 4)
        self.assertEqual(len(sky.rounds()), 4)

    def test_iteration_within_iteration(self):
        sky = Sky(EIGHT[:3])
        pairs = [(a, b) for a, _ in sky for b, _ in sky]
        self.assertEqual(len(pairs), 9)
        self.assertEqual(pairs[:4], [("c0", "c0"), ("c0", "c1"), ("c0", "c2"), ("c1", "c0")])
        self.assertEqual(list(sky), list(sky))

    def test_in(self):
        sky = Sky(ROWS)
        self.assert_true("sun" in sky)
        self.assert_false("mars" in sky)
        self.assert_true("mars" not in sky)
        self.assert_false("sun" in Sky([]))
        for value in NOT_NAMES + odd_values() + ROWS:
            self.assert_false(value in sky)

    def test_equality(self):
        sky = Sky(ROWS)
        self.assert_true(sky == Sky(list(ROWS)))
        self.assert_false(sky != Sky(list(ROWS)))
        changed = [ROWS[:3], list(reversed(ROWS)), [("san", SUN)] + ROWS[1:], [("sun", MOON)] + ROWS[1:], []]
        for rows in changed:
            self.assert_false(sky == Sky(rows))
            self.assert_true(sky != Sky(rows))
        for other in [ROWS, tuple(ROWS), None, True, "x", 0] + objects()[:3]:
            self.assert_false(sky == other)
            self.assert_true(sky != other)
        self.assert_false(Sky([]) == [])

    def test_cycle(self):
        sky = Sky(ROWS)
        self.assert_no_name("mars", sky.cycle, "mars")
        for name in NOT_NAMES + objects():
            self.assert_bad("name", sky.cycle, name)

    def test_places(self):
        sky = Sky(ROWS)
        for moment in ((0, 1), (-7, 3), f(10 ** 90, 7)):
            self.assertEqual(sky.places(moment), [(name, cycle.place(moment)) for name, cycle in ROWS])
        self.assertEqual(Sky([]).places((1, 2)), [])
        for value in not_fractions():
            self.assert_bad("moment", sky.places, value)
            self.assert_bad("moment", Sky([]).places, value)


class ChangedSkiesTest(SkyCase):
    def test_extended(self):
        sky = Sky(ROWS[:3])
        self.assertEqual(list(sky.extended("star", STILL)), ROWS)
        self.assertEqual(list(sky), ROWS[:3])
        self.assertEqual(list(Sky([]).extended("sun", SUN)), ROWS[:1])
        self.assertEqual(Sky(EIGHT[:7]).extended("c7", EIGHT[7][1]), Sky(EIGHT))

    def test_extended_errors(self):
        full = Sky(EIGHT)
        self.assert_taken("c3", full.extended, "c3", SUN)
        self.assert_many(8, full.extended, "c8", SUN)
        self.assert_taken("sun", Sky(ROWS).extended, "sun", SUN)
        for name in NOT_NAMES:
            self.assert_bad("name", full.extended, name, SUN)
            self.assert_bad("name", full.extended, name, None)
        for cycle in [None, (1, 2), "sun", True] + objects()[2:]:
            self.assert_bad("cycle", full.extended, "c3", cycle)
        self.assertEqual(full, Sky(EIGHT))

    def test_without(self):
        sky = Sky(ROWS)
        self.assertEqual(list(sky.without("moon")), [ROWS[0], ROWS[2], ROWS[3]])
        self.assertEqual(list(sky), ROWS)
        self.assertEqual(Sky(ROWS[:1]).without("sun"), Sky([]))

    def test_names_that_must_be_there(self):
        sky = Sky(ROWS)
        for call in (sky.without, sky.seen_from, sky.paced_by):
            self.assert_no_name("mars", call, "mars")
            for name in NOT_NAMES:
                self.assert_bad("name", call, name)
        for call in (Sky([]).without, Sky([]).seen_from, Sky([]).paced_by):
            self.assert_no_name("sun", call, "sun")

    def test_seen_from(self):
        seen = Sky(ROWS).seen_from("moon")
        self.assertEqual(seen.names, ["sun", "moon", "node", "star"])
        for name, cycle in seen:
            self.assertEqual(cycle, Sky(ROWS).cycle(name) - MOON)
        self.assertEqual(seen.cycle("moon"), Cycle((0, 1)))

    def test_paced_by(self):
        for name in ("sun", "moon", "node"):
            pace = num(Sky(ROWS).cycle(name).rate)
            paced = Sky(ROWS).paced_by(name)
            self.assertEqual(paced.names, ["sun", "moon", "node", "star"])
            self.assertEqual(paced.cycle(name).rate, (1, 1))
            for moment in ((0, 1), (100, 7), (-3, 1)):
                for known, cycle in ROWS:
                    turns = paced.cycle(known).turns(f(pace * num(moment)))
                    self.assertEqual(turns, cycle.turns(moment))
                    self.assertEqual(paced.cycle(known).start, cycle.start)

    def test_paced_by_a_still_cycle(self):
        self.assert_error(Still, {}, Sky(ROWS).paced_by, "star")
        self.assert_no_name("mars", Sky([("star", STILL)]).paced_by, "mars")

    def test_later(self):
        sky = Sky(ROWS)
        for by in ((0, 1), (7, 2), f(-(10 ** 90), 11)):
            self.assertEqual(list(sky.later(by)), [(name, cycle.later(by)) for name, cycle in ROWS])
        for value in not_fractions():
            self.assert_bad("by", sky.later, value)
            self.assert_bad("by", Sky([]).later, value)


class GreatPeriodTest(SkyCase):
    def check(self, rates):
        sky = Sky([(f"c{index}", Cycle(f(rate), (1, 3))) for index, rate in enumerate(rates)])
        period, rounds = sky.great_period(), sky.rounds()
        if not any(num(f(rate)) for rate in rates):
            self.assertEqual((period, rounds), (None, None))
            return None
        self.assert_fraction(period)
        self.assertEqual(rounds, [(f"c{k}", num(f(rate)) * num(period)) for k, rate in enumerate(rates)])
        self.assertEqual([type(made) for _, made in rounds], [int] * len(rates))
        # All turns are whole, and no shorter time makes them so.
        self.assertEqual(math.gcd(*[made for _, made in rounds]), 1)
        self.assertGreater(period[0], 0)
        return period

    def test_periods(self):
        self.assertIsNone(self.check([]))
        self.assertIsNone(self.check([0]))
        self.assertIsNone(self.check([0, 0, 0]))
        third = num((1, 3))
        self.assertEqual(self.check([third]), (3, 1))
        self.assertEqual(self.check([-third]), (3, 1))
        self.assertEqual(self.check([0, num((1, 4)), num((1, 6)), 0]), (12, 1))
        self.assertEqual(self.check([4, -6]), (1, 2))
        self.assertEqual(Sky([("a", Cycle((4, 1))), ("b", Cycle((-6, 1)))]).rounds(), [("a", 2), ("b", -3)])

    def test_seeded(self):
        source = random.Random(19)
        for size in (3, 50, 10 ** 39):
            for many in range(1, 9):
                rates = [f(source.randint(-size, size), source.randint(1, size)) for _ in range(many)]
                self.check([num(rate) for rate in rates])
