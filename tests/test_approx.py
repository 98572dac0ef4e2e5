"""Tests of best fractions [2] [4] [5] [6] [7] [8] [24] [25] [26]."""

import math
import random
from fractions import Fraction

from tests.helpers import SkyCase, f, not_fractions, not_integers, num, odd_values
from wheelsky.approx import convergents, is_nearest_paper, nearest, nearest_paper, quotients, value_of

LONG = f(int("31415926535897932384626433832795028841"), int("2718281828459045235360287471352662497757"))
NOT_MOST = not_integers() + [0, -1, 1000001, 10 ** 39]


def seeded_values(seed, many, digits):
    """Return fractions with up to so many digits."""
    source = random.Random(seed)
    values = []
    for _ in range(many):
        top = 10 ** source.randint(1, digits)
        values.append(f(source.randint(-top, top), source.randint(1, 10 ** source.randint(1, digits))))
    return values


def slow_quotients(value):
    """Return the quotients from their meaning."""
    terms = [math.floor(value)]
    while value != math.floor(value):
        value = 1 / (value - math.floor(value))
        terms.append(math.floor(value))
    return terms


def slow_value(terms):
    """Return the value of quotients from its meaning."""
    value = Fraction(terms[-1])
    for term in reversed(terms[:-1]):
        value = term + 1 / value
    return value


def all_fractions(value, most):
    """Return the fractions beside the number of each denominator up to `most`, as pairs."""
    rows = set()
    for denominator in range(1, most + 1):
        below = math.floor(value * denominator)
        rows |= {Fraction(below, denominator), Fraction(below + 1, denominator)}
    return rows


def slow_nearest(value, most):
    """Return the nearest fraction by looking at each denominator."""
    return min(all_fractions(value, most), key=lambda row: (abs(row - value), row.denominator, row))


class QuotientsTest(SkyCase):
    def test_plain(self):
        self.assertEqual(quotients((30, 13)), [2, 3, 4])
        self.assertEqual(quotients((0, 1)), [0])
        self.assertEqual(quotients((7, 1)), [7])
        self.assertEqual(quotients((-7, 1)), [-7])
        self.assertEqual(quotients((1, 2)), [0, 2])
        self.assertEqual(quotients((-1, 2)), [-1, 2])
        self.assertEqual(quotients((-30, 13)), [-3, 1, 2, 4])
        self.assertEqual(quotients((10 ** 39, 1)), [10 ** 39])

    def test_seeded(self):
        for value in seeded_values(1, 200, 40) + [LONG]:
            terms = quotients(value)
            self.assertEqual(terms, slow_quotients(num(value)))
            self.assertEqual([type(term) for term in terms], [int] * len(terms))
            self.assertTrue(all(term >= 1 for term in terms[1:]))
            self.assertTrue(len(terms) == 1 or terms[-1] >= 2)

    def test_lists_are_new(self):
        quotients((30, 13)).clear()
        convergents((30, 13)).clear()
        self.assertEqual(quotients((30, 13)), [2, 3, 4])
        self.assertEqual(convergents((30, 13)), [(2, 1), (7, 3), (30, 13)])

    def test_forms(self):
        for value in not_fractions():
            self.assert_bad("value", quotients, value)
            self.assert_bad("value", convergents, value)


class ValueOfTest(SkyCase):
    def test_plain(self):
        self.assertEqual(value_of([2, 3, 4]), (30, 13))
        self.assertEqual(value_of([2, 3, 3, 1]), (30, 13))
        self.assertEqual(value_of([-3]), (-3, 1))
        self.assertEqual(value_of([0]), (0, 1))
        self.assertEqual(value_of([0, 1]), (1, 1))
        self.assertEqual(value_of([-1, 1]), (0, 1))
        self.assertEqual(value_of([-1, 2]), (-1, 2))
        self.assertEqual(value_of([1, 1, 1, 1, 1]), (8, 5))

    def test_lengths(self):
        golden = value_of([1] * 400)
        self.assert_fraction(golden)
        self.assertEqual(num(golden), slow_value([1] * 400))
        self.assertEqual(value_of([7]), (7, 1))
        for terms in ([], [1] * 401, [0] + [2] * 400):
            self.assert_bad("terms", value_of, terms)

    def test_forms(self):
        wrong = [(2, 3, 4), None, 2, "2", True, {}, [None], [2, None], [2, 3, True], [True], [2, "3"], [[2]], [2, [3]]]
        wrong += [[None, 2], [True, 2], ["2", 3], [2, 0], [2, -1], [2, 3, 0], [2, 0, 3], [2, 3, -4], [0, 0]]
        wrong += [[2, 3, 4, 0, 5], [1.0], [2, 3.0]]
        wrong += [[thing] for thing in odd_values() if type(thing) is not int]
        for terms in wrong:
            self.assert_bad("terms", value_of, terms)

    def test_seeded(self):
        source = random.Random(2)
        for _ in range(200):
            terms = [source.randint(-10 ** 39, 10 ** 39)]
            terms += [source.choice((1, 2, source.randint(1, 10 ** 39))) for _ in range(source.randint(0, 30))]
            answer = self.assert_unchanged([terms], value_of, terms)
            self.assert_fraction(answer)
            self.assertEqual(num(answer), slow_value(terms))

    def test_back_and_forth(self):
        for value in seeded_values(3, 200, 40):
            self.assertEqual(value_of(quotients(value)), value)

    def test_long_numbers_come_back(self):
        long = value_of([7, 10 ** 39] * 200)
        self.assertGreater(long[0].bit_length(), 25000)
        self.assertEqual(quotients(long), [7, 10 ** 39] * 200)
        self.assertEqual(value_of([long[0], long[1]]), f(num((long[0], 1)) + Fraction(1, long[1])))
        self.assertEqual(convergents(long)[-1], long)
        self.assertEqual(len(convergents(long)), 400)
        self.assertEqual(nearest(long, most=1000), (7, 1))
        self.assert_true(is_nearest_paper(long, nearest_paper(long, most=1000), most=1000))


class ConvergentsTest(SkyCase):
    def test_seeded(self):
        for value in seeded_values(4, 100, 40) + [(0, 1), (5, 1), (-5, 1), (1, 2), (-1, 2), LONG]:
            rows = convergents(value)
            terms = quotients(value)
            self.assertEqual(rows, [f(slow_value(terms[:count])) for count in range(1, len(terms) + 1)])
            self.assertEqual(rows[-1], value)
            for row in rows:
                self.assert_fraction(row)

    def test_a_first_quotient_of_zero(self):
        self.assertEqual(convergents((2, 5)), [(0, 1), (1, 2), (2, 5)])


class NearestTest(SkyCase):
    def check(self, value, most):
        """Check the nearest fraction and its certificate against all denominators."""
        low, high = paper = nearest_paper(value, most=most)
        self.assertIs(type(paper), tuple)
        self.assert_fraction(low)
        self.assert_fraction(high)
        self.assert_true(is_nearest_paper(value, paper, most=most))
        rows = all_fractions(num(value), most)
        self.assertEqual(low, f(max(row for row in rows if row <= num(value))))
        self.assertEqual(high, f(min(row for row in rows if row >= num(value))))
        answer = nearest(value, most=most)
        self.assert_fraction(answer)
        self.assertEqual(answer, f(slow_nearest(num(value), most)))

    def test_all_small(self):
        for denominator in range(1, 17):
            for numerator in range(-denominator - 3, 2 * denominator + 3):
                if math.gcd(numerator, denominator) == 1:
                    for most in range(1, 18):
                        self.check((numerator, denominator), most)

    def test_seeded(self):
        for value in seeded_values(5, 60, 40) + [LONG]:
            for most in (1, 2, 3, 7, 100):
                self.check(value, most)

    def test_ties(self):
        # Of 0 and 1 the lower one; of 1/2 and 1 the one with the smaller denominator.
        self.assertEqual(nearest((1, 2), most=1), (0, 1))
        self.assertEqual(nearest((-1, 2), most=1), (-1, 1))
        self.assertEqual(nearest((7, 2), most=1), (3, 1))
        self.assertEqual(nearest((3, 4), most=2), (1, 1))
        self.assertEqual(nearest((1, 4), most=2), (0, 1))
        self.assertEqual(nearest((-1, 4), most=2), (0, 1))
        self.assertEqual(nearest((5, 12), most=3), (1, 2))
        self.assertEqual(nearest((1, 2), most=2), (1, 2))

    def test_the_value_itself(self):
        for value in ((0, 1), (3, 1), (-3, 1), (1, 2), (-22, 7), (999999, 1000000), (10 ** 39, 999999)):
            for most in (value[1], 1000000):
                self.assertEqual(nearest_paper(value, most=most), (value, value))
                self.assertEqual(nearest(value, most=most), value)
        self.assertEqual(nearest((10 ** 39, 1), most=1), (10 ** 39, 1))

    def test_one_and_a_million(self):
        self.assertEqual(nearest_paper((22, 7), most=1), ((3, 1), (4, 1)))
        self.assertEqual(nearest_paper((-22, 7), most=1), ((-4, 1), (-3, 1)))
        self.assertEqual(nearest((22, 7), most=1), (3, 1))
        half = f(Fraction(1, 2) + Fraction(1, 10 ** 39))
        self.assertEqual(nearest_paper(half, most=1000000), ((1, 2), (500000, 999999)))
        tiny = (1, 10 ** 39)
        self.assertEqual(nearest_paper(tiny, most=1000000), ((0, 1), (1, 1000000)))
        self.assertEqual(nearest_paper((-1, 10 ** 39), most=1000000), ((-1, 1000000), (0, 1)))
        for value in seeded_values(6, 200, 40) + [LONG]:
            low, high = nearest_paper(value, most=1000000)
            self.assert_true(is_nearest_paper(value, (low, high), most=1000000))
            self.assertIn(nearest(value, most=1000000), (low, high))

    def test_forms(self):
        for value in not_fractions():
            self.assert_bad("value", nearest, value, most=None)
            self.assert_bad("value", nearest_paper, value, most=0)
            self.assert_bad("value", is_nearest_paper, value, None, most=0)
        for most in NOT_MOST:
            self.assert_bad("most", nearest, (1, 2), most=most)
            self.assert_bad("most", nearest_paper, (1, 2), most=most)
            self.assert_bad("most", is_nearest_paper, (1, 2), None, most=most)
            self.assert_bad("most", is_nearest_paper, (1, 2), ((1, 2), (1, 2)), most=most)


class JudgeTest(SkyCase):
    def judge(self, paper):
        return is_nearest_paper((30, 13), paper, most=5)

    def test_one_thing_changed(self):
        right = ((9, 4), (7, 3))
        self.assert_true(self.judge(right))
        wrong = [((7, 3), (9, 4)), ((9, 4), (9, 4)), ((7, 3), (7, 3)), ((30, 13), (30, 13))]
        # Neighbours of which one is not the nearest one on its side, or no neighbours at all.
        wrong += [((2, 1), (7, 3)), ((9, 4), (5, 2)), ((2, 1), (5, 2)), ((2, 1), (3, 1)), ((9, 4), (12, 5))]
        # Denominators that are greater than `most`.
        wrong += [((16, 7), (7, 3)), ((23, 10), (7, 3)), ((9, 4), (37, 16)), ((30, 13), (7, 3)), ((9, 4), (30, 13))]
        wrong += [(9, 4, 7, 3), ((9, 4),), ((9, 4), (7, 3), (7, 3)), [(9, 4), (7, 3)], ([9, 4], [7, 3])]
        wrong += [((18, 8), (7, 3)), ((9, 4), (-7, -3)), ((9, 4), None), (None, (7, 3)), ((9, True), (7, 3))]
        for paper in wrong:
            self.assert_false(self.judge(paper))

    def test_a_sum_of_denominators_that_is_not_greater(self):
        # 0/1 and 1/1 are neighbours, and 1/2 between them still fits.
        value = (2, 5)
        self.assert_true(is_nearest_paper(value, ((0, 1), (1, 1)), most=1))
        self.assert_false(is_nearest_paper(value, ((0, 1), (1, 1)), most=2))
        self.assert_true(is_nearest_paper(value, ((0, 1), (1, 2)), most=2))
        self.assert_false(is_nearest_paper(value, ((0, 1), (1, 2)), most=1))
        self.assert_false(is_nearest_paper(value, ((0, 1), (1, 2)), most=3))

    def test_the_value_fits(self):
        self.assert_true(is_nearest_paper((1, 2), ((1, 2), (1, 2)), most=2))
        self.assert_true(is_nearest_paper((1, 2), ((1, 2), (1, 2)), most=3))
        self.assert_false(is_nearest_paper((1, 2), ((1, 2), (1, 2)), most=1))
        self.assert_true(is_nearest_paper((1, 2), ((0, 1), (1, 1)), most=1))
        self.assert_false(is_nearest_paper((1, 2), ((0, 1), (1, 1)), most=2))
        # Neighbours with the value as one of them.
        self.assert_false(is_nearest_paper((1, 2), ((1, 2), (1, 1)), most=2))
        self.assert_false(is_nearest_paper((1, 2), ((0, 1), (1, 2)), most=2))
        self.assert_false(is_nearest_paper((0, 1), ((False, 1), (0, 1)), most=2))
        self.assert_false(is_nearest_paper((1, 1), ((True, 1), (True, 1)), most=2))

    def test_exactly_one_is_right(self):
        rows = sorted({Fraction(n, d) for d in range(1, 9) for n in range(-d, 2 * d + 1)})
        for value in ((3, 7), (-2, 9), (11, 13), (1, 1), (2, 5)):
            for most in (1, 4, 7):
                right = [(f(low), f(high)) for low in rows for high in rows
                         if is_nearest_paper(value, (f(low), f(high)), most=most)]
                self.assertEqual(right, [nearest_paper(value, most=most)])

    def test_values_of_every_kind(self):
        self.assert_judges_all(self.judge)
        self.assert_judges_all(lambda value: is_nearest_paper(LONG, value, most=1000000))
