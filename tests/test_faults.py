"""Tests of faults of tables [4] [6] [7] [47] [51]."""

import itertools
import math
import random

from tests.helpers import SkyCase, objects
from tests.test_tables import LONG, NOT_DEGREES, NOT_TABLES, SQUARES, polynomial_at, polynomial_table
from wheelsky.errors import Broken
from wheelsky.faults import find_fault, is_fault, mended


def slow_sound(values, degree):
    """Tell from the meaning whether the degree of a table is at most this one."""
    points = list(enumerate(values[:degree + 1]))
    return all(polynomial_at(points, at) == row for at, row in enumerate(values))


def slow_answer(values, degree):
    """Return what find_fault returns, from the meaning."""
    if slow_sound(values, degree):
        return ("sound",)
    for row in range(len(values)):
        points = [(at, value) for at, value in enumerate(values) if at != row][:degree + 1]
        right = polynomial_at(points, row)
        if right.denominator == 1 and slow_sound(values[:row] + [int(right)] + values[row + 1:], degree):
            return ("fault", row, int(right))
    return ("broken",)


def with_fault(values, row, by):
    """Return a copy of a table with one row changed."""
    return values[:row] + [values[row] + by] + values[row + 1:]


def seeded_cases(seed, many):
    """Return pairs (table, degree): sound, with one wrong row, with two, and of any rows."""
    source = random.Random(seed)
    cases = []
    for number in range(many):
        degree = number % 9
        rows = degree + source.choice((3, 3, 4, 6))
        top = source.choice((1, 5, LONG))
        values = polynomial_table(source, degree, rows, top)
        for _ in range(source.choice((0, 1, 1, 1, 2, 3))):
            values = with_fault(values, source.randrange(rows), source.randint(-top, top))
        cases.append((values, degree))
        cases.append(([source.randint(0, 1) for _ in range(rows)], degree))
    return cases


class FindFaultTest(SkyCase):
    def check(self, values, degree, expected):
        answer = self.assert_unchanged([values], find_fault, values, degree=degree)
        self.assertEqual(answer, expected)
        self.assertEqual([type(answer)] + [type(item) for item in answer],
                         [tuple, str] + [int] * (len(expected) - 1))
        return answer

    def test_plain(self):
        self.check([3, 5, 8, 9, 11], 1, ("fault", 2, 7))
        self.check([3, 5, 7, 9, 11], 1, ("sound",))
        self.check([3, 5, 8, 9, 12], 1, ("broken",))
        self.check(SQUARES + [16, 25], 2, ("sound",))
        self.check(SQUARES + [17, 25], 2, ("fault", 4, 16))
        self.check([7, 7, 7], 0, ("sound",))
        self.check([7, 8, 7], 0, ("fault", 1, 7))
        self.check([7, 8, 9], 0, ("broken",))

    def test_each_degree_and_each_row(self):
        source = random.Random(1)
        for degree in range(9):
            for many in (degree + 3, degree + 4, 20):
                values = polynomial_table(source, degree, many, 1000)
                self.check(values, degree, ("sound",))
                for row in range(many):
                    for by in (1, -1, 10 ** 39):
                        self.check(with_fault(values, row, by), degree, ("fault", row, values[row]))

    def test_a_lower_degree_is_sound(self):
        self.check([5] * 11, 8, ("sound",))
        self.check([0, 1, 4, 9, 16, 25], 3, ("sound",))
        self.check([0, 1, 4, 9, 16], 1, ("broken",))

    def test_sixty_rows(self):
        for degree in (0, 1, 4, 8):
            values = [k ** degree - 7 for k in range(60)]
            self.check(values, degree, ("sound",))
            for row in (0, 1, 29, 58, 59):
                self.check(with_fault(values, row, -3), degree, ("fault", row, values[row]))
            self.check(with_fault(with_fault(values, 10, 1), 50, 1), degree, ("broken",))

    def test_two_wrong_rows(self):
        source = random.Random(2)
        for degree in range(9):
            values = polynomial_table(source, degree, degree + 5, 50)
            for row in range(1, degree + 5):
                worse = with_fault(with_fault(values, 0, 1), row, 2)
                self.check(worse, degree, slow_answer(worse, degree))
            # With two rows more, two wrong rows can never be one.
            values = polynomial_table(source, degree, degree + 6, 50)
            self.check(with_fault(with_fault(values, 0, 5), degree + 5, 2), degree, ("broken",))

    def test_only_a_number_that_is_no_integer_would_fit(self):
        self.check([0, 0, 0, 1, 2], 2, ("broken",))
        self.check([0, 0, 5, 1, 2], 2, ("broken",))
        checked = 0
        for degree in range(2, 9):
            for values, row in self.tables_but_for_one_row(degree):
                for wrong in (0, 1, -7):
                    self.check(values[:row] + [wrong] + values[row + 1:], degree, ("broken",))
                checked += 1
        self.assertGreater(checked, 50)

    def tables_but_for_one_row(self, degree):
        """Return tables of degree + 3 rows that only a number that is no integer would make sound, and its row."""
        found = []
        for row in range(degree + 3):
            others = [at for at in range(degree + 3) if at != row]
            for left, right in itertools.combinations(others, 2):
                roots = [at for at in others if at not in (left, right)]
                rows = [math.prod(at - root for root in roots) for at in range(degree + 3)]
                unit = math.gcd(rows[left], rows[right])
                if rows[row] % unit:
                    found.append(([value // unit for value in rows], row))
        return found

    def test_rows_of_40_digits(self):
        values = [LONG - k * (LONG // 7) for k in range(12)]
        self.check(values, 1, ("sound",))
        self.check(with_fault(values, 11, -LONG), 1, ("fault", 11, values[11]))
        self.check([-LONG] * 4 + [LONG], 0, ("fault", 4, -LONG))

    def test_seeded(self):
        found = {"sound": 0, "fault": 0, "broken": 0}
        for values, degree in seeded_cases(3, 180):
            answer = self.check(values, degree, slow_answer(values, degree))
            found[answer[0]] += 1
            self.assertEqual(answer, find_fault(list(values), degree=degree))
        self.assertGreater(min(found.values()), 20)

    def test_too_few_rows(self):
        for call in (find_fault, mended, lambda values, degree: is_fault(values, (0, 0), degree=degree)):
            for degree in range(9):
                for many in range(1, degree + 3):
                    self.assert_mismatch(call, [0] * many, degree=degree)
            self.assert_mismatch(call, [1, 2], degree=0)
        for degree in range(9):
            self.check([0] * (degree + 3), degree, ("sound",))

    def test_forms(self):
        for call in (find_fault, mended, lambda values, degree: is_fault(values, None, degree=degree)):
            for values in NOT_TABLES:
                self.assert_bad("values", call, values, degree=None)
            for degree in NOT_DEGREES:
                self.assert_bad("degree", call, [0], degree=degree)


class IsFaultTest(SkyCase):
    VALUES = [3, 5, 8, 9, 11]

    def judge(self, answer):
        return is_fault(list(self.VALUES), answer, degree=1)

    def test_one_thing_changed(self):
        self.assert_true(self.judge((2, 7)))
        for answer in ((2, 8), (2, 6), (1, 7), (3, 7), (-3, 7), (2, -7), (7, 2), (2,), (2, 7, 0), [2, 7], (5, 7), (-1, 7),
                       ("fault", 2, 7), ("sound",), ("broken",), (2, True), (True, 7), (2, 7.0), ((2, 7),), (2, "7"),
                       (2, None), (10 ** 39, 7), (2, 10 ** 39), (2, (7, 1)), {2: 7}, "27"):
            self.assert_false(self.judge(answer))

    def test_true_and_false(self):
        self.assert_true(is_fault([0, 9, 2, 3], (1, 1), degree=1))
        for answer in ((True, 1), (1, True), (True, True)):
            self.assert_false(is_fault([0, 9, 2, 3], answer, degree=1))
        self.assert_true(is_fault([9, 0, 0], (0, 0), degree=0))
        for answer in ((False, 0), (0, False)):
            self.assert_false(is_fault([9, 0, 0], answer, degree=0))

    def test_negative_rows(self):
        values = [0, 1, 2, 9]
        self.assert_true(is_fault(values, (3, 3), degree=1))
        self.assert_false(is_fault(values, (-1, 3), degree=1))
        self.assert_false(is_fault([9, 0, 0], (-3, 0), degree=0))

    def test_a_sound_table_has_none(self):
        for row, value in enumerate([3, 5, 7, 9]):
            self.assert_false(is_fault([3, 5, 7, 9], (row, value), degree=1))

    def test_a_row_that_was_right_already(self):
        self.assert_false(self.judge((1, 5)))
        self.assert_false(self.judge((2, 8)))

    def test_a_broken_table_has_none(self):
        for row in range(5):
            for right in range(-20, 20):
                self.assert_false(is_fault([3, 5, 8, 9, 12], (row, right), degree=1))

    def test_what_find_fault_returns(self):
        for values, degree in seeded_cases(4, 90):
            answer = find_fault(values, degree=degree)
            self.assert_false(is_fault(values, answer, degree=degree))
            for row in range(len(values)):
                for right in {values[row], 0, 1} | ({answer[2]} if answer[0] == "fault" else set()):
                    verdict = is_fault(values, (row, right), degree=degree)
                    self.assertIs(verdict, ("fault", row, right) == answer)

    def test_values_of_every_kind(self):
        self.assert_judges_all(self.judge)

    def test_errors_whatever_is_judged(self):
        for answer in (None, (2, 7), [[]]):
            self.assert_bad("values", is_fault, [], answer, degree=1)
            self.assert_bad("degree", is_fault, [1], answer, degree=True)
            self.assert_mismatch(is_fault, [1, 2, 3], answer, degree=1)


class MendedTest(SkyCase):
    def test_plain(self):
        self.assertEqual(mended([3, 5, 8, 9, 11], degree=1), [3, 5, 7, 9, 11])
        self.assertEqual(mended([3, 5, 7, 9, 11], degree=1), [3, 5, 7, 9, 11])
        self.assert_error(Broken, {}, mended, [3, 5, 8, 9, 12], degree=1)

    def test_seeded(self):
        for values, degree in seeded_cases(5, 90):
            answer = slow_answer(values, degree)
            if answer[0] == "broken":
                self.assert_error(Broken, {}, mended, values, degree=degree)
                continue
            rows = self.assert_unchanged([values], mended, values, degree=degree)
            expected = list(values)
            if answer[0] == "fault":
                expected[answer[1]] = answer[2]
            self.assertEqual((type(rows), rows), (list, expected))
            self.assertEqual(find_fault(rows, degree=degree), ("sound",))

    def test_lists_are_new(self):
        for values in ([3, 5, 7, 9], [3, 5, 8, 9, 11]):
            before = list(values)
            first, second = mended(values, degree=1), mended(values, degree=1)
            self.assertIsNot(first, values)
            self.assertIsNot(first, second)
            first.clear()
            self.assertEqual((values, second), (before, mended(values, degree=1)))

    def test_a_value_may_come_back(self):
        """[5]: rows that the program returned may have more digits."""
        values = [math.comb(k, 8) * 10 ** 300 for k in range(60)]
        self.assertEqual(mended(with_fault(values, 59, 1), degree=8), values)

    def test_objects_are_no_rows(self):
        for thing in objects():
            self.assert_bad("values", mended, [1, 2, thing], degree=0)
