"""Tests of fractions and measures [2] [4] [7] [11] [12]."""

import itertools
import math
import random
from fractions import Fraction

from tests.helpers import SkyCase, f, nested, not_fractions, not_integers, num, objects, odd_values
from wheelsky.ratios import common_measure, compare, distance_of, floor_of, fraction, is_fraction
from wheelsky.ratios import is_measure_paper, measure_paper, minus, offset_of, over, part_of, plus, times

LONG = int("1234567890" * 4)
SAMPLES = [(0, 1), (1, 1), (-1, 1), (1, 2), (-1, 2), (7, 4), (-7, 4), (3, 2), (-3, 2), (1, 3), (-2, 3)]
SAMPLES += [(5, 1), (-5, 1), (LONG, 10 ** 39 + 1), (-LONG, 10 ** 39 + 1), (LONG, 1), (1, LONG)]


class FractionTest(SkyCase):
    def test_lowest_terms_and_signs(self):
        self.assertEqual(fraction(6, 4), (3, 2))
        self.assertEqual(fraction(6, -4), (-3, 2))
        self.assertEqual(fraction(-6, 4), (-3, 2))
        self.assertEqual(fraction(-6, -4), (3, 2))
        self.assertEqual(fraction(12, 4), (3, 1))

    def test_zero(self):
        for denominator in (1, -1, 7, -7, LONG):
            self.assertEqual(fraction(0, denominator), (0, 1))

    def test_denominator_left_out(self):
        self.assertEqual(fraction(5), (5, 1))
        self.assertEqual(fraction(-5), (-5, 1))
        self.assertEqual(fraction(0), (0, 1))

    def test_long_numbers(self):
        for many in (40, 80, 5000, 20000):
            numerator, denominator = 10 ** (many - 1) * 6, -(2 ** (3 * many) * 9)
            answer = fraction(numerator, denominator)
            self.assertEqual(math.gcd(*answer), 1)
            self.assertEqual(answer[0] * denominator, answer[1] * numerator)
            self.assertGreater(answer[1], 0)

    def test_wrong_numerator_goes_first(self):
        for value in not_integers():
            self.assert_bad("numerator", fraction, value)
            self.assert_bad("numerator", fraction, value, 2)
            self.assert_bad("numerator", fraction, value, 0)
            self.assert_bad("numerator", fraction, value, True)

    def test_wrong_denominator(self):
        for value in not_integers() + [0]:
            self.assert_bad("denominator", fraction, 1, value)


class IsFractionTest(SkyCase):
    def test_fractions(self):
        for value in SAMPLES + [f(3 ** 9000, 2 ** 15000)]:
            self.assert_true(is_fraction(value))

    def test_nearly_fractions(self):
        wrong = [[1, 2], (1, 2, 3), (1,), (), (2, 4), (0, 2), (1, 0), (0, 0), (1, -2), (-1, -2), (0, -1)]
        wrong += [(True, 1), (1, True), (False, 1), (True, True), ("1", 2), (1, "2"), "12", {1: 2}, {"a": 1}]
        wrong += [(None, 1), (1, None), ((1, 2), (1, 2)), ((1,), 2), 1, True, None]
        for value in wrong:
            self.assert_false(is_fraction(value))

    def test_nested_values_and_objects(self):
        for levels in range(1, 20):
            self.assert_false(is_fraction(nested(1, levels)))
            self.assert_false(is_fraction(nested((1, 2), levels)))
        for thing in objects():
            self.assert_false(is_fraction(thing))
            self.assert_false(is_fraction((thing, 1)))
            self.assert_false(is_fraction((1, thing)))

    def test_judged_value_unchanged(self):
        self.assert_judges_all(is_fraction)


class ArithmeticTest(SkyCase):
    def test_against_python(self):
        for left, right in itertools.product(SAMPLES, SAMPLES):
            self.assertEqual(plus(left, right), f(num(left) + num(right)))
            self.assertEqual(minus(left, right), f(num(left) - num(right)))
            self.assertEqual(times(left, right), f(num(left) * num(right)))
            if right != (0, 1):
                self.assertEqual(over(left, right), f(num(left) / num(right)))
            sign = (num(left) > num(right)) - (num(left) < num(right))
            self.assertEqual(compare(left, right), sign)

    def test_forms_of_the_answers(self):
        for left, right in itertools.product(SAMPLES[:9], SAMPLES[1:9]):
            for call in (plus, minus, times, over):
                self.assert_fraction(call(left, right))
            self.assertIs(type(compare(left, right)), int)

    def test_returned_numbers_come_back(self):
        value = (LONG, 10 ** 39 + 1)
        for _ in range(7):
            value = plus(times(value, value), (1, 3))
        self.assertGreater(len(str(value[1] % 10 ** 4000)), 80)
        self.assertEqual(minus(plus(value, value), value), value)
        self.assertEqual(over(times(value, value), value), value)
        self.assertEqual(compare(value, plus(value, (1, LONG))), -1)
        self.assertEqual(floor_of(value), math.floor(num(value)))
        self.assertEqual(part_of(value), f(num(value) - math.floor(num(value))))

    def test_zero_on_the_right_of_over(self):
        self.assert_bad("right", over, (1, 2), (0, 1))
        self.assert_bad("right", over, (0, 1), (0, 1))
        self.assert_bad("left", over, (2, 4), (0, 1))

    def test_wrong_forms(self):
        for call in (plus, minus, times, over, compare):
            for value in not_fractions():
                self.assert_bad("left", call, value, (1, 2))
                self.assert_bad("left", call, value, value)
                self.assert_bad("right", call, (1, 2), value)


class PartsTest(SkyCase):
    def test_named_edges(self):
        self.assertEqual(offset_of((7, 4)), (-1, 4))
        self.assertEqual(offset_of((1, 2)), (1, 2))
        self.assertEqual(offset_of((-1, 2)), (1, 2))
        self.assertEqual(offset_of((3, 2)), (1, 2))
        self.assertEqual(distance_of((-1, 2)), (1, 2))
        self.assertEqual(distance_of((7, 4)), (1, 4))
        self.assertEqual((floor_of((-1, 2)), part_of((-1, 2))), (-1, (1, 2)))
        self.assertEqual((floor_of((-7, 1)), part_of((-7, 1))), (-7, (0, 1)))

    def test_by_their_meanings(self):
        long_values = [f(num(value) * LONG ** 3) for value in SAMPLES]
        for value in SAMPLES + long_values + [f(n, 12) for n in range(-40, 40)]:
            worth = num(value)
            self.assertEqual(floor_of(value), math.floor(worth))
            self.assertIs(type(floor_of(value)), int)
            self.assertEqual(part_of(value), f(worth - math.floor(worth)))
            offset = num(offset_of(value))
            self.assertTrue(-Fraction(1, 2) < offset <= Fraction(1, 2))
            self.assertEqual((worth - offset).denominator, 1)
            self.assertEqual(distance_of(value), f(abs(offset)))
            for call in (part_of, offset_of, distance_of):
                self.assert_fraction(call(value))

    def test_wrong_forms(self):
        for call in (floor_of, part_of, offset_of, distance_of):
            for value in not_fractions():
                self.assert_bad("value", call, value)


MEASURED = [
    ([(1, 2), (-1, 3), (0, 1)], (1, 6)),
    ([(0, 1)], (0, 1)),
    ([(0, 1)] * 12, (0, 1)),
    ([(-3, 7)], (3, 7)),
    ([(2, 3), (2, 3), (2, 3)], (2, 3)),
    ([(4, 1), (6, 1)], (2, 1)),
    ([(0, 1), (3, 4), (9, 8)], (3, 8)),
    ([f(1, n) for n in range(1, 13)], (1, 27720)),
    ([f(n * 5, 3) for n in range(-6, 6)], (5, 3)),
    ([(-1, 2), (-1, 2)], (1, 2)),
]


class MeasureTest(SkyCase):
    def test_measures(self):
        for values, measure in MEASURED:
            self.assertEqual(common_measure(values), measure)

    def test_all_orders(self):
        for values in itertools.permutations([(4, 9), (-10, 21), (0, 1), (6, 5)]):
            self.assertEqual(common_measure(list(values)), (2, 315))
            self.check_paper(list(values))

    def check_paper(self, values):
        paper = self.assert_unchanged([values], measure_paper, values)
        measure, weights = paper
        self.assertIs(type(paper), tuple)
        self.assertIs(type(weights), tuple)
        self.assertEqual([type(weight) for weight in weights], [int] * len(values))
        self.assertEqual(measure, common_measure(values))
        total = sum(weight * num(value) for weight, value in zip(weights, values))
        self.assertEqual(f(total), measure)
        self.assertEqual(measure_paper(list(values)), paper)
        self.assert_true(self.assert_unchanged([values], is_measure_paper, values, paper))
        return paper

    def test_papers(self):
        for values, _ in MEASURED:
            self.check_paper(values)

    def test_seeded_papers(self):
        source = random.Random(12)
        for size in (1, 3, 10 ** 3, 10 ** 39):
            for many in (1, 2, 5, 12):
                self.check_paper([f(source.randint(-size, size), source.randint(1, size)) for _ in range(many)])

    def test_later_changes_have_no_effect(self):
        values = [(1, 2), (1, 3)]
        paper = measure_paper(values)
        values.append((1, 5))
        values[0] = (9, 1)
        self.assertEqual(paper[0], (1, 6))
        self.assertEqual(len(paper[1]), 2)
        self.assertEqual(common_measure([(1, 2), (1, 3)]), (1, 6))

    def test_one_thing_changed(self):
        values = [(1, 2), (-1, 3), (0, 1)]
        (numerator, denominator), weights = self.check_paper(values)
        wrong = [((2 * numerator, 2 * denominator), weights), ((-numerator, denominator), weights)]
        wrong += [((1, 12), weights), ((0, 1), weights), ((1, 3), weights), (1, weights), ((1, 6), list(weights))]
        wrong += [[(1, 6), weights], ((1, 6), weights, 0), ((1, 6),), ((1, 6), weights[:2]), ((1, 6), weights + (0,))]
        wrong += [((1, 6), (weights[0] + 1,) + weights[1:]), ((1, 6), weights[:1] + (weights[1] - 1,) + weights[2:])]
        wrong += [((1, 6), weights[:2] + (True,)), ((1, 6), weights[:2] + (None,)), ([1, 6], weights)]
        wrong += [((-1, 6), tuple(-weight for weight in weights))]
        for paper in wrong:
            self.assert_false(is_measure_paper(values, paper))

    def test_smaller_measures_and_other_weights(self):
        self.assert_true(is_measure_paper([(1, 2), (1, 3)], ((1, 6), (1, -1))))
        self.assert_true(is_measure_paper([(1, 2), (1, 3)], ((1, 6), (-1, 2))))
        self.assert_true(is_measure_paper([(1, 2), (1, 3)], ((1, 6), (1 + 2 * 10 ** 50, -1 - 3 * 10 ** 50))))
        # Each value is a multiple of 1/12 as well, but no sum of multiples is 1/12.
        self.assert_false(is_measure_paper([(1, 2), (1, 3)], ((1, 12), (1, -1))))
        # The weights make 5/6, of which 1/2 is no multiple.
        self.assert_false(is_measure_paper([(1, 2), (1, 3)], ((5, 6), (1, 1))))
        self.assert_false(is_measure_paper([(1, 2)], ((0, 1), (0,))))
        self.assert_true(is_measure_paper([(0, 1), (0, 1)], ((0, 1), (5, -7))))
        self.assert_false(is_measure_paper([(0, 1)], ((1, 1), (1,))))
        self.assert_false(is_measure_paper([(1, 1)], ((True, 1), (1,))))
        self.assert_false(is_measure_paper([(1, 1)], ((1, 1), (True,))))
        self.assert_true(is_measure_paper([(1, 1)], ((1, 1), (1,))))

    def test_judges_all(self):
        self.assert_judges_all(lambda paper: is_measure_paper([(1, 2), (1, 3)], paper))

    def test_wrong_lists(self):
        good = (1, 2)
        wrong = [[], [good] * 13, (good,), good, None, {}, [good, (2, 4)], [good, 1], [[1, 2]], [True], "ab", 3]
        wrong += [[good, thing] for thing in objects()] + objects()
        for values in wrong:
            self.assert_bad("values", common_measure, values)
            self.assert_bad("values", measure_paper, values)
            for paper in [((1, 2), (1,)), None] + odd_values()[:5]:
                self.assert_bad("values", is_measure_paper, values, paper)
