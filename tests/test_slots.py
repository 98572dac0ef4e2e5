"""Tests of slots [2] [4] [5] [6] [10] [35] [36]."""

import math
import random
from fractions import Fraction

from tests.helpers import SkyCase, f, not_fractions, num, objects
from wheelsky.slots import Slot, even_slot

LONG = int("9" * 80)
KNOTS = [((0, 1), (0, 1)), ((1, 2), (1, 4))]
EIGHT = [(f(number, 8), f(number * number % 5, 7)) for number in range(8)]
NOT_PLACES = not_fractions() + [(1, 1), (3, 2), (10 ** 39, 1)]


def lift_at(knots, place):
    """Return the lift at a place, from the meaning."""
    rows = [(num(knot), num(lift)) for knot, lift in knots]
    rows.append((Fraction(1), rows[0][1]))
    for (first, low), (last, high) in zip(rows, rows[1:]):
        if first <= place <= last:
            return low + (high - low) * (place - first) / (last - first)
    raise AssertionError("no piece")


def slow_carried(knots, turns):
    """Return what a slot carries the number to, from the meaning."""
    return turns + lift_at(knots, turns - math.floor(turns))


def seeded_knots(seed, many, digits=2):
    """Return lists of 1 to 8 knots."""
    source = random.Random(seed)
    found = []
    for _ in range(many):
        top = 10 ** digits
        places = sorted({Fraction(source.randint(1, top - 1), top) for _ in range(source.randint(0, 7))})
        lifts = [f(source.randint(-top, top), source.randint(1, top)) for _ in range(len(places) + 1)]
        found.append(list(zip([(0, 1)] + [f(place) for place in places], lifts)))
    return found


class SlotTest(SkyCase):
    def test_example(self):
        slot = Slot(KNOTS)
        self.assertEqual((slot.carried((5, 4)), slot.carried((-1, 4))), ((11, 8), (-1, 8)))
        self.assertEqual((slot.slopes(), slot.sway()), ([(3, 2), (1, 2)], (1, 4)))

    def test_one_knot_is_even(self):
        for lift in ((0, 1), (1, 3), (-7, 2), (10 ** 39, 1)):
            slot = Slot([((0, 1), lift)])
            self.assertEqual((slot.knots, slot.slopes(), slot.sway()), ([((0, 1), lift)], [(1, 1)], f(abs(num(lift)))))
            for turns in ((0, 1), (1, 2), (-5, 3), (LONG, 1)):
                self.assertEqual(slot.carried(turns), f(num(turns) + num(lift)))

    def test_even_slot(self):
        self.assertEqual(even_slot().knots, [((0, 1), (0, 1))])
        self.assert_true(even_slot() == Slot([((0, 1), (0, 1))]))
        self.assertIs(type(even_slot()), Slot)
        self.assertEqual(even_slot().carried((-22, 7)), (-22, 7))

    def test_eight_knots(self):
        slot = Slot(EIGHT)
        self.assertEqual(slot.knots, EIGHT)
        self.assertEqual(len(slot.slopes()), 8)
        self.assertEqual(slot.sway(), (4, 7))
        for number in range(-24, 25):
            self.assertEqual(slot.carried(f(number, 16)), f(slow_carried(EIGHT, Fraction(number, 16))))

    def test_wrong_knots(self):
        good = ((0, 1), (0, 1))
        wrong = [[], EIGHT + [((15, 16), (0, 1))], tuple(KNOTS), None, {}, 1, "x", True, good, [list(good)], [(good,)]]
        wrong += [[((0, 1),)], [((0, 1), (0, 1), (0, 1))], [()], [None], KNOTS + [None]] + objects()
        wrong += [[good, (place, (0, 1))] for place in NOT_PLACES] + [[((0, 1), lift)] for lift in not_fractions()]
        # The first place is not 0.
        wrong += [[((1, 2), (0, 1))], [((1, 10 ** 39), (0, 1)), ((1, 2), (0, 1))], [((-1, 2), (0, 1))]]
        # The places do not ascend.
        wrong += [[good, good], [good, ((1, 2), (0, 1)), ((1, 2), (1, 1))], [good, ((1, 2), (0, 1)), ((1, 3), (0, 1))]]
        wrong += [[good, ((1, 2), (0, 1)), ((3, 4), (0, 1)), ((0, 1), (0, 1))], EIGHT[:1] + EIGHT[:0:-1]]
        for knots in wrong:
            self.assert_bad("knots", Slot, knots)

    def test_lists_are_new_and_stay(self):
        knots = list(EIGHT)
        slot = self.assert_unchanged([knots], Slot, knots)
        knots.clear()
        slot.knots.clear()
        slot.slopes().clear()
        self.assertEqual(slot.knots, EIGHT)
        self.assertEqual(len(slot.slopes()), 8)
        self.assertEqual(slot.carried((1, 16)), f(slow_carried(EIGHT, Fraction(1, 16))))

    def test_equality(self):
        slot = Slot(KNOTS)
        self.assert_true(slot == Slot(list(KNOTS)))
        self.assert_false(slot != Slot(list(KNOTS)))
        others = [Slot(KNOTS[:1]), Slot(KNOTS[:1] + [((1, 2), (1, 3))]), Slot(KNOTS[:1] + [((1, 3), (1, 4))])]
        others += [Slot([((0, 1), (1, 1)), KNOTS[1]]), Slot(EIGHT), KNOTS, tuple(KNOTS), None, 0, "x", True] + objects()
        for other in others:
            self.assert_false(slot == other)
            self.assert_true(slot != other)


class CarriedTest(SkyCase):
    def test_at_knots_and_in_the_last_piece(self):
        knots = [((0, 1), (1, 1)), ((1, 3), (-2, 1)), ((1, 2), (5, 1))]
        slot = Slot(knots)
        self.assertEqual(slot.carried((0, 1)), (1, 1))
        self.assertEqual(slot.carried((1, 3)), (-5, 3))
        self.assertEqual(slot.carried((1, 2)), (11, 2))
        self.assertEqual(slot.carried((3, 4)), (15, 4))
        self.assertEqual(slot.carried((1, 1)), (2, 1))
        self.assertEqual(slot.carried((-1, 2)), (9, 2))
        self.assertEqual(slot.carried((-1, 4)), (11, 4))
        near_one = Fraction(10 ** 39 - 1, 10 ** 39)
        self.assertEqual(slot.carried(f(near_one)), f(slow_carried(knots, near_one)))

    def test_seeded(self):
        source = random.Random(2)
        for knots in seeded_knots(1, 60) + seeded_knots(3, 20, 39):
            slot = Slot(knots)
            places = [num(place) for place, _ in knots]
            for turns in places + [Fraction(source.randint(-900, 900), 300) for _ in range(6)]:
                for passed in (0, 1, -1, -7, LONG, -LONG):
                    answer = slot.carried(f(turns + passed))
                    self.assert_fraction(answer)
                    self.assertEqual(answer, f(slow_carried(knots, turns) + passed))
                    self.assertLessEqual(abs(num(answer) - turns - passed), num(slot.sway()))

    def test_slopes_and_sway(self):
        for knots in seeded_knots(4, 60) + seeded_knots(5, 20, 39):
            slot = Slot(knots)
            places = [num(place) for place, _ in knots] + [Fraction(1)]
            lifts = [num(lift) for _, lift in knots] + [num(knots[0][1])]
            expected = [1 + (lifts[k + 1] - lifts[k]) / (places[k + 1] - places[k]) for k in range(len(knots))]
            self.assertEqual(slot.slopes(), [f(slope) for slope in expected])
            self.assertEqual(slot.sway(), f(max(abs(lift) for lift in lifts)))
            for row in slot.slopes() + [slot.sway()]:
                self.assert_fraction(row)

    def test_sway_of_negative_lifts(self):
        self.assertEqual(Slot([((0, 1), (1, 1)), ((1, 2), (-3, 2))]).sway(), (3, 2))
        self.assertEqual(Slot([((0, 1), (-1, 3))]).sway(), (1, 3))

    def test_long_numbers(self):
        slot = Slot(KNOTS)
        turns = f(LONG * 10 ** 80 + 7, 3 * 10 ** 79)
        self.assertEqual(slot.carried(turns), f(slow_carried(KNOTS, num(turns))))
        far = f(-7 ** 3000, 3 ** 100)
        self.assertEqual(slot.carried(slot.carried(far)), f(slow_carried(KNOTS, slow_carried(KNOTS, num(far)))))

    def test_forms(self):
        for turns in not_fractions():
            self.assert_bad("turns", Slot(KNOTS).carried, turns)
            self.assert_bad("turns", even_slot().carried, turns)
