"""Tests of trains [2] [4] [5] [6] [27] [28] [29] [30]."""

import itertools
import math
import random
from fractions import Fraction

from tests.helpers import SkyCase, f, not_fractions, not_integers, num, odd_values
from wheelsky.trains import fewest_train, splits, teeth_pair, train_ratio

NOT_POSITIVE = not_fractions() + [(0, 1), (-1, 2), (-1, 10 ** 39)]
LONG = f(int("31415926535897932384626433832795028841"), int("2718281828459045235360287471352662497757"))


def slow_pair(value, least, most):
    """Return the teeth pair by looking at all pairs."""
    teeth = range(least, most + 1)
    return min(itertools.product(teeth, teeth), key=lambda pair: (abs(Fraction(*pair) - value), sum(pair)))


def slow_splits(number, parts, least, most):
    """Return the splits by looking at all ascending tuples."""
    rows = itertools.combinations_with_replacement(range(least, most + 1), parts)
    return [row for row in rows if math.prod(row) == number]


def slow_train(value, least, most, scale):
    """Return the fewest train by the words of the document."""
    for parts in (1, 2, 3):
        for factor in range(1, scale + 1):
            drivers = slow_splits(factor * value[0], parts, least, most)
            driven = slow_splits(factor * value[1], parts, least, most)
            if drivers and driven:
                return list(zip(drivers[0], driven[0]))
    return None


class TeethPairTest(SkyCase):
    def test_example(self):
        self.assertEqual(teeth_pair((30, 13), least=4, most=12), (9, 4))

    def test_one_pair_alone(self):
        for teeth in (1, 7, 200):
            for value in ((1, 1), (3, 7), (10 ** 39, 1), (1, 10 ** 39)):
                self.assertEqual(teeth_pair(value, least=teeth, most=teeth), (teeth, teeth))

    def test_several_pairs_of_one_ratio(self):
        self.assertEqual(teeth_pair((1, 2), least=3, most=100), (3, 6))
        self.assertEqual(teeth_pair((2, 1), least=3, most=100), (6, 3))
        self.assertEqual(teeth_pair((1, 1), least=5, most=9), (5, 5))
        self.assertEqual(teeth_pair((2, 3), least=7, most=50), (8, 12))

    def test_ties_by_the_least_sum(self):
        # 1/2 and 1/1 are both 1/4 away from 3/4; 2/2 has a greater sum than 1/1.
        self.assertEqual(teeth_pair((3, 4), least=1, most=2), (1, 1))
        self.assertEqual(teeth_pair((3, 2), least=1, most=2), (1, 1))
        # 3/4 and 3/3 are 1/8 away from 7/8, 4/3 and 3/3 are 1/6 away from 7/6.
        self.assertEqual(teeth_pair((7, 8), least=3, most=4), (3, 3))
        self.assertEqual(teeth_pair((7, 6), least=3, most=4), (3, 3))
        # The ratio above has the lesser sum here: 1/3 and 1/2.
        self.assertEqual(teeth_pair((5, 12), least=1, most=3), (1, 2))
        # And the ratio below here: 1/1 and 3/2.
        self.assertEqual(teeth_pair((5, 4), least=1, most=3), (1, 1))

    def test_values_beyond_all_ratios(self):
        self.assertEqual(teeth_pair((10 ** 39, 1), least=3, most=200), (200, 3))
        self.assertEqual(teeth_pair((1, 10 ** 39), least=3, most=200), (3, 200))
        self.assertEqual(teeth_pair((10 ** 39, 7), least=1, most=1), (1, 1))
        self.assertEqual(teeth_pair((201, 1), least=1, most=200), (200, 1))
        self.assertEqual(teeth_pair((1, 201), least=1, most=200), (1, 200))

    def test_all_small(self):
        for numerator, denominator in itertools.product(range(1, 26), range(1, 26)):
            value = f(numerator, denominator)
            for least, most in ((1, 1), (1, 2), (1, 7), (3, 5), (4, 12), (6, 7)):
                answer = teeth_pair(value, least=least, most=most)
                self.assertEqual(answer, slow_pair(num(value), least, most))

    def test_seeded(self):
        source = random.Random(1)
        values = [f(source.randint(1, 10 ** 39), source.randint(1, 10 ** 39)) for _ in range(6)] + [LONG, (355, 113)]
        # Halfway between two ratios.
        values += [f((Fraction(*pair) + Fraction(*other)) / 2) for pair, other in
                   zip(itertools.product((17, 24), (19, 23)), itertools.product((20, 21), (25, 18)))]
        for value in values:
            self.assertEqual(teeth_pair(value, least=15, most=60), slow_pair(num(value), 15, 60))
        self.assertEqual(teeth_pair((355, 113), least=1, most=200), slow_pair(Fraction(355, 113), 1, 200))

    def test_forms(self):
        for value in NOT_POSITIVE:
            self.assert_bad("value", teeth_pair, value, least=None, most=None)
        for teeth in not_integers() + [0, -1, 201, 10 ** 39]:
            self.assert_bad("least", teeth_pair, (1, 2), least=teeth, most=None)
            self.assert_bad("most", teeth_pair, (1, 2), least=5, most=teeth)
        self.assert_bad("most", teeth_pair, (1, 2), least=200, most=201)

    def test_mismatch_behind_all_forms(self):
        self.assert_mismatch(teeth_pair, (1, 2), least=2, most=1)
        self.assert_mismatch(teeth_pair, (1, 2), least=200, most=199)
        self.assert_bad("value", teeth_pair, (0, 1), least=2, most=1)
        self.assert_bad("most", teeth_pair, (1, 2), least=2, most=0)


class TrainRatioTest(SkyCase):
    def test_signs_and_lengths(self):
        self.assertEqual(train_ratio([(2, 3), (5, 4)]), (5, 6))
        for count in range(1, 7):
            self.assertEqual(train_ratio([(1, 2)] * count), f(Fraction(-1, 2) ** count))
            self.assertEqual(train_ratio([(7, 7)] * count), ((-1) ** count, 1))
        self.assertEqual(train_ratio([(1, 1000)] * 6), (1, 10 ** 18))
        self.assertEqual(train_ratio([(1000, 1)] * 5), (-10 ** 15, 1))

    def test_seeded(self):
        source = random.Random(2)
        for _ in range(100):
            train = [(source.randint(1, 1000), source.randint(1, 1000)) for _ in range(source.randint(1, 6))]
            answer = self.assert_unchanged([train], train_ratio, train)
            self.assert_fraction(answer)
            self.assertEqual(num(answer), math.prod(Fraction(-driver, driven) for driver, driven in train))

    def test_forms(self):
        wrong = [[], [(1, 2)] * 7, ((1, 2),), (1, 2), None, [[1, 2]], [(1, 2, 3)], [(1,)], [()], [(1, 2), None]]
        for teeth in not_integers() + [0, -1, 1001, 10 ** 39]:
            wrong += [[(1, 2), (teeth, 5)], [(5, teeth)]]
        wrong += [[(1, 2), thing] for thing in odd_values() if thing != (2, 4)]
        for train in wrong:
            self.assert_bad("train", train_ratio, train)


class SplitsTest(SkyCase):
    def test_example(self):
        self.assertEqual(splits(36, parts=2, least=3, most=12), [(3, 12), (4, 9), (6, 6)])

    def test_all_small(self):
        for number in range(1, 130):
            for parts, (least, most) in itertools.product((1, 2, 3), ((1, 1), (1, 6), (2, 9), (3, 12), (5, 5))):
                answer = splits(number, parts=parts, least=least, most=most)
                self.assertEqual(answer, slow_splits(number, parts, least, most))

    def test_one(self):
        for parts in (1, 2, 3):
            self.assertEqual(splits(1, parts=parts, least=1, most=100), [(1,) * parts])
            self.assertEqual(splits(1, parts=parts, least=2, most=100), [])

    def test_bounds(self):
        self.assertEqual(splits(100, parts=1, least=1, most=100), [(100,)])
        self.assertEqual(splits(101, parts=1, least=1, most=100), [])
        self.assertEqual(splits(7, parts=1, least=8, most=100), [])
        self.assertEqual(splits(10 ** 6, parts=3, least=1, most=100), [(100, 100, 100)])
        self.assertEqual(splits(10 ** 6, parts=3, least=1, most=99), [])
        self.assertEqual(splits(10 ** 4, parts=2, least=100, most=100), [(100, 100)])
        self.assertEqual(splits(8, parts=3, least=2, most=2), [(2, 2, 2)])
        self.assertEqual(splits(97, parts=2, least=2, most=100), [])
        self.assertEqual(splits(97, parts=2, least=1, most=100), [(1, 97)])

    def test_many(self):
        for number in (720, 5040, 7560, 45360, 55440, 27720, 997002):
            answer = splits(number, parts=3, least=1, most=100)
            self.assertEqual(answer, slow_splits(number, 3, 1, 100))
            self.assertEqual(answer, sorted(answer))

    def test_numbers_far_greater(self):
        numbers = [10 ** 39, 10 ** 39 - 1, 2 ** 130, math.factorial(33), 10 ** 6 + 1, 100 ** 3 * 7]
        for number in numbers + [math.factorial(2000)]:
            for parts in (1, 2, 3):
                self.assertEqual(splits(number, parts=parts, least=1, most=100), [])

    def test_lists_are_new(self):
        splits(36, parts=2, least=3, most=12).clear()
        self.assertEqual(len(splits(36, parts=2, least=3, most=12)), 3)

    def test_forms(self):
        for number in not_integers() + [0, -1, -(10 ** 39)]:
            self.assert_bad("number", splits, number, parts=None, least=None, most=None)
        for parts in not_integers() + [0, -1, 4, 10 ** 39]:
            self.assert_bad("parts", splits, 36, parts=parts, least=None, most=None)
        for teeth in not_integers() + [0, -1, 101, 10 ** 39]:
            self.assert_bad("least", splits, 36, parts=2, least=teeth, most=0)
            self.assert_bad("most", splits, 36, parts=2, least=100, most=teeth)
        self.assert_mismatch(splits, 36, parts=2, least=7, most=6)
        self.assert_mismatch(splits, 10 ** 39, parts=1, least=100, most=1)


class FewestTrainTest(SkyCase):
    def test_one_two_and_three_pairs(self):
        self.assertEqual(fewest_train((15, 2), least=2, most=15), [(15, 2)])
        self.assertEqual(fewest_train((15, 2), least=2, most=12), [(3, 2), (10, 2)])
        self.assertEqual(fewest_train((1, 1), least=5, most=5), [(5, 5)])
        self.assertEqual(fewest_train((1, 1), least=1, most=1), [(1, 1)])
        self.assertEqual(fewest_train((1000, 1), least=1, most=10), [(10, 1), (10, 1), (10, 1)])
        self.assertEqual(fewest_train((1, 1000), least=1, most=10), [(1, 10), (1, 10), (1, 10)])

    def test_the_scale(self):
        # 1/2 with teeth from 4 needs 4/8, so the scale 4.
        for scale in (1, 2, 3):
            self.assertEqual(fewest_train((1, 2), least=4, most=9, scale=scale), slow_train((1, 2), 4, 9, scale))
        self.assertEqual(fewest_train((1, 2), least=4, most=9, scale=4), [(4, 8)])
        self.assertEqual(fewest_train((1, 2), least=4, most=9, scale=8), [(4, 8)])
        self.assertIsNone(fewest_train((1, 2), least=4, most=9, scale=1))
        # Left out, it is 6.
        self.assertEqual(fewest_train((1, 2), least=6, most=12), [(6, 12)])
        self.assertIsNone(fewest_train((1, 1), least=7, most=7))
        self.assertEqual(fewest_train((1, 1), least=7, most=7, scale=7), [(7, 7)])
        self.assertEqual(fewest_train((1, 1), least=8, most=8, scale=8), [(8, 8)])

    def test_fewer_pairs_go_ahead_of_lesser_scales(self):
        # With the scale 2 one pair is enough; with the scale 1 it takes two.
        self.assertEqual(fewest_train((6, 1), least=2, most=12, scale=2), [(12, 2)])
        self.assertEqual(fewest_train((10, 9), least=3, most=20), [(10, 9)])
        self.assertEqual(fewest_train((4, 1), least=2, most=8), [(8, 2)])
        self.assertEqual(fewest_train((6, 1), least=2, most=12, scale=1), None)
        self.assertEqual(fewest_train((9, 4), least=2, most=3, scale=8), [(3, 2), (3, 2)])

    def test_no_train(self):
        self.assertIsNone(fewest_train((101, 1), least=1, most=100, scale=1))
        self.assertIsNone(fewest_train((10 ** 39, 1), least=1, most=100))
        # Four pairs would do.
        self.assertIsNone(fewest_train((10 ** 4, 1), least=1, most=10))
        self.assertIsNone(fewest_train((1, 10 ** 39), least=1, most=100, scale=8))
        self.assertIsNone(fewest_train((101, 103), least=1, most=100, scale=8))

    def test_all_small(self):
        for numerator, denominator in itertools.product(range(1, 31), range(1, 31)):
            if math.gcd(numerator, denominator) == 1:
                for (least, most), scale in itertools.product(((1, 4), (2, 6), (3, 9)), (1, 6)):
                    answer = fewest_train((numerator, denominator), least=least, most=most, scale=scale)
                    self.assertEqual(answer, slow_train((numerator, denominator), least, most, scale))

    def test_the_ratio_is_the_value(self):
        for value in ((15, 2), (81, 64), (128, 45), (1000, 999), (97, 96)):
            train = fewest_train(value, least=8, most=100)
            self.assertEqual(abs(num(train_ratio(train))), num(value))
            self.assertTrue(all(type(pair) is tuple for pair in train))

    def test_lists_are_new(self):
        fewest_train((15, 2), least=2, most=12).clear()
        self.assertEqual(len(fewest_train((15, 2), least=2, most=12)), 2)

    def test_forms(self):
        for value in NOT_POSITIVE:
            self.assert_bad("value", fewest_train, value, least=None, most=None, scale=None)
        for teeth in not_integers() + [0, -1, 101, 10 ** 39]:
            self.assert_bad("least", fewest_train, (1, 2), least=teeth, most=None, scale=None)
            self.assert_bad("most", fewest_train, (1, 2), least=5, most=teeth, scale=None)
        for scale in not_integers() + [0, -1, 9, 10 ** 39]:
            self.assert_bad("scale", fewest_train, (1, 2), least=5, most=4, scale=scale)
        self.assert_mismatch(fewest_train, (1, 2), least=5, most=4)
        self.assert_mismatch(fewest_train, (10 ** 39, 1), least=100, most=99, scale=8)
