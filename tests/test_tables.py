"""Tests of tables [2] [4] [5] [6] [16] [47] [48] [49] [50]."""

import math
import random
from fractions import Fraction

from tests.helpers import SkyCase, f, not_fractions, not_integers, num, objects, objects_but, odd_values
from wheelsky.cycles import Cycle
from wheelsky.tables import (
    continued, cycle_table, degree_of, differences, heads_of, reading, straight_bound, table_of,
)

SQUARES = [0, 1, 4, 9]
LONG = 10 ** 39
SIXTY = list(range(60))
NOT_TABLES = [[], SIXTY + [60], tuple(SQUARES), None, {}, 1, "1", True, [None], [0, True], [False], [1, "2"], [1, 2.0]]
NOT_TABLES += [[[1]], [(1, 2)], SQUARES + [None]] + objects() + [[1, thing] for thing in objects()]
NOT_DEGREES = not_integers() + [-1, 9, 10 ** 39]
NOT_COUNTS = not_integers() + [-1, 61, 10 ** 39]
NOT_BACKS = [value for value in odd_values() if value is not True and value is not False]


def polynomial_at(points, at):
    """Return the value at a number of the polynomial through points (x, y)."""
    total = Fraction(0)
    for x, y in points:
        share = Fraction(y)
        for other, _ in points:
            if other != x:
                share *= Fraction(at - other) / (x - other)
        total += share
    return total


def slow_differences(values, order):
    """Return the differences of an order, from the meaning."""
    for _ in range(order):
        values = [values[k + 1] - values[k] for k in range(len(values) - 1)]
    return list(values)


def slow_continued(values, degree, count, back):
    """Return the rows that follow or precede a table, by the polynomial through its last or first rows."""
    many = len(values)
    if back:
        points = list(enumerate(values[:degree + 1]))
        return [polynomial_at(points, at) for at in range(-count, 0)]
    points = [(many - 1 - k, values[many - 1 - k]) for k in range(degree + 1)]
    return [polynomial_at(points, at) for at in range(many, many + count)]


def polynomial_table(source, degree, many, top):
    """Return a table of at most this degree."""
    factors = [source.randint(-top, top) for _ in range(degree + 1)]
    return [sum(factor * math.comb(k, order) for order, factor in enumerate(factors)) for k in range(many)]


def seeded_tables(seed, many):
    """Return tables, some of a low degree, some of any rows."""
    source = random.Random(seed)
    tables = [[0], [7], [-LONG], [0, 0], [1, 2], SQUARES, SIXTY, [0] * 60]
    for _ in range(many):
        top = source.choice((3, 100, LONG))
        rows = source.choice((1, 2, 5, 9, 20))
        if source.random() < 0.5:
            tables.append(polynomial_table(source, source.randint(0, 8), rows, top))
        else:
            tables.append([source.randint(-top, top) for _ in range(rows)])
    return tables


class DifferencesTest(SkyCase):
    def test_plain(self):
        self.assertEqual(differences(SQUARES), [[0, 1, 4, 9], [1, 3, 5], [2, 2], [0]])
        self.assertEqual(differences([5]), [[5]])
        self.assertEqual(differences([3, -4]), [[3, -4], [-7]])

    def test_seeded(self):
        for values in seeded_tables(1, 60):
            rows = self.assert_unchanged([values], differences, values)
            self.assertEqual(rows, [slow_differences(values, order) for order in range(len(values))])
            self.assertEqual([type(row) for row in rows], [list] * len(rows))
            self.assertEqual(len(rows[-1]), 1)

    def test_sixty_rows(self):
        rows = differences([(-1) ** k * LONG for k in range(60)])
        self.assertEqual((len(rows), rows[59]), (60, [-(2 ** 59) * LONG]))
        self.assertEqual(differences(rows[58]), [rows[58], rows[59]])

    def test_lists_are_new_and_stay(self):
        values = list(SQUARES)
        rows = differences(values)
        self.assertIsNot(rows[0], values)
        rows[0].clear()
        rows.clear()
        self.assertEqual(values, SQUARES)
        self.assertEqual(differences(values)[0], SQUARES)

    def test_forms(self):
        for values in NOT_TABLES:
            self.assert_bad("values", differences, values)
            self.assert_bad("values", degree_of, values)
            self.assert_bad("values", heads_of, values, degree=None)
            self.assert_bad("values", continued, values, degree=None, count=None, back=None)
            self.assert_bad("values", reading, values, None, degree=None)
            self.assert_bad("values", straight_bound, values, degree=None)
        for degree in NOT_DEGREES:
            self.assert_bad("degree", heads_of, [0], degree=degree)
            self.assert_bad("degree", continued, [0], degree=degree, count=None, back=None)
            self.assert_bad("degree", reading, [0], (5, 1), degree=degree)
            self.assert_bad("degree", straight_bound, [0], degree=degree)


class DegreeTest(SkyCase):
    def test_plain(self):
        self.assertEqual(degree_of(SQUARES), 2)
        self.assertEqual(degree_of([0, 1, 4]), 2)
        self.assertEqual(degree_of([0, 1]), 1)
        self.assertEqual(degree_of([7]), 0)
        self.assertEqual(degree_of([0] * 60), 0)
        self.assertEqual(degree_of([5] * 7), 0)
        self.assertEqual(degree_of(SIXTY), 1)
        self.assertEqual(degree_of([0] * 59 + [1]), 59)
        self.assertEqual(degree_of([0, 0, 0, 1]), 3)

    def test_seeded(self):
        for values in seeded_tables(2, 80):
            degree = next(d for d in range(60) if not any(slow_differences(values, d + 1)))
            self.assertEqual(degree_of(values), degree)


class HeadsTest(SkyCase):
    def test_plain(self):
        self.assertEqual(heads_of(SQUARES, degree=2), [0, 1, 2])
        self.assertEqual(heads_of(SQUARES, degree=0), [0])
        self.assertEqual(heads_of(SQUARES, degree=3), [0, 1, 2, 0])
        self.assertEqual(heads_of([-4], degree=0), [-4])

    def test_too_few_rows(self):
        self.assert_mismatch(heads_of, SQUARES, degree=4)
        for degree in range(9):
            self.assertEqual(len(heads_of([1] * (degree + 1), degree=degree)), degree + 1)
        for degree in range(1, 9):
            self.assert_mismatch(heads_of, [1] * degree, degree=degree)

    def test_seeded(self):
        for values in seeded_tables(3, 60):
            for degree in range(min(9, len(values))):
                heads = self.assert_unchanged([values], heads_of, values, degree=degree)
                self.assertEqual(heads, [slow_differences(values, order)[0] for order in range(degree + 1)])

    def test_table_of(self):
        self.assertEqual(table_of([0, 1, 2], count=5), [0, 1, 4, 9, 16])
        self.assertEqual(table_of([0, 1, 2], count=0), [])
        self.assertEqual(table_of([0, 1, 2], count=2), [0, 1])
        self.assertEqual(table_of([0, 1, 2], count=1), [0])
        self.assertEqual(table_of([7], count=60), [7] * 60)
        self.assertEqual(table_of([0] * 9, count=3), [0, 0, 0])

    def test_table_of_seeded(self):
        source = random.Random(4)
        for _ in range(60):
            heads = [source.randint(-LONG, LONG) for _ in range(source.randint(1, 9))]
            rows = self.assert_unchanged([heads], table_of, heads, count=60)
            expected = [sum(head * math.comb(k, order) for order, head in enumerate(heads)) for k in range(60)]
            self.assertEqual(rows, expected)
            count = source.randint(0, 60)
            self.assertEqual(table_of(heads, count=count), rows[:count])
            self.assertLessEqual(degree_of(rows), len(heads) - 1)
            self.assertEqual(heads_of(rows, degree=len(heads) - 1), heads)

    def test_lists_are_new(self):
        heads_of(SQUARES, degree=2).clear()
        heads = [1]
        table_of(heads, count=1).append(2)
        self.assertEqual((heads, table_of(heads, count=1), heads_of(SQUARES, degree=2)), ([1], [1], [0, 1, 2]))

    def test_table_of_forms(self):
        wrong = [[], [0] * 10, (0, 1), None, {}, 1, "1", True, [None], [0, True], [False], [1, "2"], [1, 2.0], [[1]]]
        for heads in wrong + objects() + [[1, thing] for thing in objects()]:
            self.assert_bad("heads", table_of, heads, count=None)
        for count in NOT_COUNTS:
            self.assert_bad("count", table_of, [0], count=count)


class ContinuedTest(SkyCase):
    def test_plain(self):
        self.assertEqual(continued(SQUARES, degree=2, count=2), [16, 25])
        self.assertEqual(continued(SQUARES, degree=2, count=2, back=False), [16, 25])
        self.assertEqual(continued(SQUARES, degree=2, count=2, back=True), [4, 1])
        for back in (False, True):
            self.assertEqual(continued(SQUARES, degree=2, count=0, back=back), [])
            self.assertEqual(continued([7], degree=0, count=60, back=back), [7] * 60)

    def test_just_degree_and_one_rows(self):
        for degree in range(9):
            values = [k ** degree - 3 * k for k in range(degree + 1)]
            for back in (False, True):
                rows = continued(values, degree=degree, count=4, back=back)
                self.assertEqual(rows, slow_continued(values, degree, 4, back))
            if degree:
                self.assert_mismatch(continued, values[1:], degree=degree, count=0)
                self.assert_mismatch(continued, values[1:], degree=degree, count=4, back=True)

    def test_of_a_higher_degree(self):
        # The last rows alone, or the first rows alone, are continued.
        values = [5, 6, 100, 1, 2, 3]
        self.assertEqual(continued(values, degree=1, count=3), [4, 5, 6])
        self.assertEqual(continued(values, degree=1, count=3, back=True), [2, 3, 4])
        self.assertEqual(continued(values, degree=0, count=2), [3, 3])
        self.assertEqual(continued(values, degree=0, count=2, back=True), [5, 5])

    def test_seeded(self):
        source = random.Random(5)
        for values in seeded_tables(5, 60):
            for degree in range(min(9, len(values))):
                count = source.choice((1, 5, 60))
                for back in (False, True):
                    rows = self.assert_unchanged([values], continued, values, degree=degree, count=count, back=back)
                    self.assertEqual(rows, slow_continued(values, degree, count, back))
                    self.assertEqual([type(row) for row in rows], [int] * count)

    def test_sixty_rows(self):
        rows = [k ** 8 for k in range(60)]
        self.assertEqual(continued(rows, degree=8, count=60), [k ** 8 for k in range(60, 120)])
        self.assertEqual(continued(rows, degree=8, count=60, back=True), [k ** 8 for k in range(-60, 0)])

    def test_forms(self):
        for count in NOT_COUNTS:
            self.assert_bad("count", continued, [0], degree=8, count=count, back=None)
        for back in NOT_BACKS + [0, 1]:
            self.assert_bad("back", continued, [0], degree=8, count=0, back=back)
            self.assert_bad("back", continued, SQUARES, degree=2, count=0, back=back)


class ReadingTest(SkyCase):
    def test_plain(self):
        self.assertEqual(reading(SQUARES, (5, 2), degree=2), (25, 4))
        self.assertEqual(reading(SQUARES, (5, 2), degree=1), (13, 2))
        self.assertEqual(reading(SQUARES, (5, 2), degree=0), (4, 1))
        self.assertEqual(reading(SQUARES, (5, 2), degree=3), (25, 4))
        self.assertEqual(reading([7], (0, 1), degree=0), (7, 1))

    def test_at_integers(self):
        source = random.Random(6)
        values = [source.randint(-99, 99) for _ in range(60)]
        for degree in range(9):
            for at in range(60):
                self.assertEqual(reading(values, (at, 1), degree=degree), (values[at], 1))

    def test_seeded(self):
        source = random.Random(7)
        for values in seeded_tables(7, 60):
            last = len(values) - 1
            for degree in range(min(9, len(values))):
                for at in (Fraction(source.randint(0, last * 12), 12), last - Fraction(last, LONG), Fraction(last, 3)):
                    first = min(math.floor(at), last - degree)
                    points = [(k, values[k]) for k in range(first, first + degree + 1)]
                    answer = self.assert_unchanged([values], reading, values, f(at), degree=degree)
                    self.assertEqual(answer, f(polynomial_at(points, at)))
                    self.assert_fraction(answer)

    def test_between_the_last_two_rows(self):
        values = [0, 0, 0, 0, 8]
        self.assertEqual(reading(values, (7, 2), degree=0), (0, 1))
        self.assertEqual(reading(values, (7, 2), degree=1), (4, 1))
        self.assertEqual(reading(values, (7, 2), degree=2), (3, 1))
        self.assertEqual(reading(values, (4, 1), degree=0), (8, 1))

    def test_outside(self):
        tiny = Fraction(1, LONG)
        for at in (-tiny, Fraction(-1), 3 + tiny, Fraction(4), Fraction(LONG), Fraction(-LONG)):
            self.assert_mismatch(reading, SQUARES, f(at), degree=2)
        self.assert_mismatch(reading, SQUARES, (0, 1), degree=4)
        self.assert_mismatch(reading, [7], (1, 2), degree=0)
        self.assertEqual(reading(SQUARES, (3, 1), degree=3), (9, 1))
        self.assertEqual(reading(SQUARES, (0, 1), degree=3), (0, 1))

    def test_forms(self):
        for at in not_fractions():
            self.assert_bad("at", reading, [0], at, degree=None)
        self.assert_bad("degree", reading, SQUARES, (-1, 1), degree=9)


class StraightBoundTest(SkyCase):
    def slow_bound(self, values, degree):
        """Return the straight bound from its meaning."""
        rows = values + [int(row) for row in slow_continued(values, degree, degree, False)]
        changes = [slow_differences(rows, order) for order in range(degree + 1)]
        return max(sum((Fraction(abs(changes[k][i]), 4 * k) for k in range(2, degree + 1)), Fraction(0))
                   for i in range(len(values) - 1))

    def test_plain(self):
        self.assertEqual(straight_bound(SQUARES, degree=2), (1, 4))
        self.assertEqual(straight_bound(SQUARES, degree=3), (1, 4))
        self.assertEqual(straight_bound([0, 1, 8, 27], degree=3), (11, 4))

    def test_of_degree_zero_and_one(self):
        for degree in (0, 1):
            self.assertEqual(straight_bound([7, 7, 7], degree=degree), (0, 1))
        self.assertEqual(straight_bound(SIXTY, degree=1), (0, 1))
        self.assertEqual(straight_bound(SIXTY, degree=8), (0, 1))
        self.assertEqual(straight_bound([3, -LONG], degree=1), (0, 1))

    def test_beyond_the_table(self):
        # Continued by 4 and 10, it has at the index 2 the second difference 2 and the third one 1.
        self.assertEqual(straight_bound([0, 0, 0, 1], degree=3), (1, 3))
        cubes = [k ** 3 for k in range(60)]
        for values, degree in (([0, 0, 2], 2), ([0, 0, 0, 1], 3), ([5, 0, 0, 0, 1], 4), (cubes, 8)):
            self.assertEqual(straight_bound(values, degree=degree), f(self.slow_bound(values, degree)))

    def test_seeded(self):
        source = random.Random(8)
        for top in (2, 9, 100, LONG):
            for _ in range(40):
                degree = source.randint(0, 8)
                many = source.randint(max(2, degree + 1), 20)
                values = polynomial_table(source, degree, many, top)
                answer = self.assert_unchanged([values], straight_bound, values, degree=degree)
                self.assertEqual(answer, f(self.slow_bound(values, degree)))
                self.assert_fraction(answer)
                self.check_readings(values, degree, num(answer), source)

    def check_readings(self, values, degree, bound, source):
        """Check that no straight reading is off by more than the bound."""
        for _ in range(3):
            at = f(source.randint(0, (len(values) - 1) * 10), 10)
            off = abs(num(reading(values, at, degree=1)) - num(reading(values, at, degree=degree)))
            self.assertLessEqual(off, bound)

    def test_reached_in_the_middle(self):
        values = [3 * k * k - 5 * k for k in range(12)]
        bound = num(straight_bound(values, degree=2))
        for k in range(11):
            middle = f(2 * k + 1, 2)
            off = num(reading(values, middle, degree=1)) - num(reading(values, middle, degree=2))
            self.assertEqual(off, bound)

    def test_mismatch(self):
        self.assert_mismatch(straight_bound, [7], degree=0)
        self.assert_mismatch(straight_bound, [7], degree=1)
        self.assert_mismatch(straight_bound, SQUARES, degree=1)
        self.assert_mismatch(straight_bound, SQUARES, degree=0)
        self.assert_mismatch(straight_bound, SQUARES, degree=4)
        self.assert_mismatch(straight_bound, [0, 0, 0], degree=3)
        self.assert_mismatch(straight_bound, [0] * 58 + [1, 0], degree=8)
        self.assertEqual(straight_bound([0, 5], degree=1), (0, 1))


class CycleTableTest(SkyCase):
    def check(self, cycle, day, count):
        """Check the answer against the turns, and return it."""
        unit, values = cycle_table(cycle, day=day, count=count)
        self.assertEqual(unit, math.lcm(cycle.rate[1], cycle.start[1]))
        turns = [num(cycle.start) + num(cycle.rate) * (day + k) for k in range(count)]
        self.assertEqual(values, [unit * turn for turn in turns])
        self.assertEqual([type(value) for value in values], [int] * count)
        self.assertLessEqual(degree_of(values), 1)
        return unit, values

    def test_plain(self):
        self.assertEqual(self.check(Cycle((1, 4), (1, 6)), 0, 3), (12, [2, 5, 8]))
        self.assertEqual(self.check(Cycle((-1, 4), (1, 6)), -2, 3), (12, [8, 5, 2]))
        self.assertEqual(self.check(Cycle((0, 1), (2, 3)), 10 ** 39, 2), (3, [2, 2]))
        self.assertEqual(self.check(Cycle((0, 1)), -5, 1), (1, [0]))
        self.assertEqual(self.check(Cycle((7, 1)), 1, 1), (1, [7]))

    def test_seeded(self):
        source = random.Random(9)
        for digits in (1, 2, 39):
            for _ in range(30):
                bottom = source.randint(1, 10 ** digits)
                cycle = Cycle(f(source.randint(-10 ** digits, 10 ** digits), source.randint(1, 10 ** digits)),
                              f(source.randrange(bottom), bottom))
                self.check(cycle, source.randint(-10 ** digits, 10 ** digits), source.choice((1, 2, 60)))

    def test_forms(self):
        cycle = Cycle((1, 4))
        for thing in objects_but(Cycle) + [None, (1, 4), True]:
            self.assert_bad("cycle", cycle_table, thing, day=None, count=None)
        for day in not_integers():
            self.assert_bad("day", cycle_table, cycle, day=day, count=None)
        for count in not_integers() + [0, -1, 61, 10 ** 39]:
            self.assert_bad("count", cycle_table, cycle, day=0, count=count)

    def test_lists_are_new(self):
        cycle_table(Cycle((1, 4)), day=0, count=3)[1].clear()
        self.assertEqual(cycle_table(Cycle((1, 4)), day=0, count=3), (4, [0, 1, 2]))
