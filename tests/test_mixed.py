"""Tests of mixed counts [4] [5] [6] [9] [10] [13]."""

import itertools
import math
import random

from tests.helpers import SkyCase, f, not_fractions, not_integers, num, objects
from wheelsky.mixed import Mixed, mixed_of, nearest_mixed

WRONG_RADICES = [[], [24], (1,), (0,), (-2,), (1001,), (True,), ("2",), (2,) * 5, (24, None), None, 2, (2, (3,)), {}]
WRONG_PARTS = [[], [1], (-1,), (True,), ("2",), (0,) * 5, (0, None), None, 2, ((1, 2),), {}]


def read(count):
    """Return the attributes of a mixed count."""
    return (count.whole, count.parts, count.radices, count.worth)


class MixedTest(SkyCase):
    def test_attributes(self):
        self.assertEqual(read(Mixed(2, (3, 15), radices=(24, 60))), (2, (3, 15), (24, 60), f(2 * 1440 + 195, 1440)))
        self.assertEqual(read(Mixed(5)), (5, (), (), (5, 1)))
        self.assertEqual(read(Mixed(-1, (3,), radices=(4,))), (-1, (3,), (4,), (-1, 4)))
        self.assertEqual(read(Mixed(0, (0, 0), radices=(2, 3))), (0, (0, 0), (2, 3), (0, 1)))

    def test_greatest_radices(self):
        count = Mixed(-7, (999,) * 4, radices=(1000,) * 4)
        self.assertEqual(count.worth, f(-7 * 10 ** 12 + 10 ** 12 - 1, 10 ** 12))
        self.assertEqual(Mixed(0, (1,) * 4, radices=(2,) * 4).worth, (15, 16))

    def test_long_wholes(self):
        whole = -int("9" * 400)
        self.assertEqual(Mixed(whole, (1,), radices=(2,)).worth, f(2 * whole + 1, 2))

    def test_wrong_forms(self):
        for value in not_integers():
            self.assert_bad("whole", Mixed, value)
            self.assert_bad("whole", Mixed, value, [1], radices=3)
        for parts in WRONG_PARTS + objects():
            self.assert_bad("parts", Mixed, 1, parts)
            self.assert_bad("parts", Mixed, 1, parts, radices=(1,))
        for radices in WRONG_RADICES + objects():
            self.assert_bad("radices", Mixed, 1, (), radices=radices)
            self.assert_bad("radices", Mixed, 1, (7, 7, 7), radices=radices)

    def test_unfit(self):
        self.assert_mismatch(Mixed, 1, (1,))
        self.assert_mismatch(Mixed, 1, (), radices=(24,))
        self.assert_mismatch(Mixed, 1, (1, 2), radices=(24,))
        self.assert_mismatch(Mixed, 1, (24,), radices=(24,))
        self.assert_mismatch(Mixed, 1, (1, 60), radices=(24, 60))
        self.assert_mismatch(Mixed, 1, (10 ** 39,), radices=(1000,))


class OperatorsTest(SkyCase):
    def check(self, left, right):
        for answer, worth in (
            (left + right, num(left.worth) + num(right.worth)),
            (left - right, num(left.worth) - num(right.worth)),
            (-left, -num(left.worth)),
        ):
            self.assertIs(type(answer), Mixed)
            self.assertEqual(answer.radices, left.radices)
            self.assertEqual(num(answer.worth), worth)
            self.assertEqual(answer, Mixed(answer.whole, answer.parts, radices=left.radices))

    def test_seeded_sums(self):
        source = random.Random(5)
        for radices in ((), (2,), (1000,), (24, 60), (2, 1000, 3), (1000,) * 4, (2,) * 4):
            for size in (0, 3, 10 ** 40):
                counts = []
                for _ in range(4):
                    parts = tuple(source.randint(0, radix - 1) for radix in radices)
                    counts.append(Mixed(source.randint(-size, size), parts, radices=radices))
                for left, right in itertools.product(counts, counts):
                    self.check(left, right)

    def test_carries_through_all_parts(self):
        radices = (2, 3, 1000, 60)
        most = Mixed(-1, (1, 2, 999, 59), radices=radices)
        least = Mixed(0, (0, 0, 0, 1), radices=radices)
        self.assertEqual(most + least, Mixed(0, (0,) * 4, radices=radices))
        self.assertEqual(Mixed(0, (0,) * 4, radices=radices) - least, most)
        self.assertEqual(-least, most)

    def test_examples_of_the_document(self):
        total = Mixed(1, (23, 50), radices=(24, 60)) + Mixed(0, (0, 15), radices=(24, 60))
        self.assertEqual(read(total), (2, (0, 5), (24, 60), (577, 288)))
        self.assertEqual(read(-Mixed(0, (1,), radices=(4,)))[:2], (-1, (3,)))

    def test_unlike_radices(self):
        left = Mixed(1, (0,), radices=(24,))
        for right in (Mixed(1), Mixed(1, (0,), radices=(60,)), Mixed(1, (0, 0), radices=(24, 60))):
            self.assert_mismatch(lambda: left + right)
            self.assert_mismatch(lambda: left - right)
            self.assert_mismatch(lambda: right - left)
            self.assert_false(left == right)
            self.assert_true(left != right)

    def test_equality(self):
        left = Mixed(1, (2,), radices=(4,))
        self.assert_true(left == Mixed(1, (2,), radices=(4,)))
        self.assert_false(left != Mixed(1, (2,), radices=(4,)))
        for right in (Mixed(1, (1,), radices=(4,)), Mixed(2, (2,), radices=(4,)), Mixed(1, (2,), radices=(5,))):
            self.assert_false(left == right)
            self.assert_true(left != right)
        # The worth alone does not make two counts equal.
        self.assert_false(left == Mixed(1, (1,), radices=(2,)))

    def test_equality_with_other_values(self):
        left = Mixed(1)
        for right in [1, (1, 1), (1,), [], None, True, "1", {}] + objects():
            self.assert_false(left == right)
            self.assert_false(right == left)
            self.assert_true(left != right)


class MixedOfTest(SkyCase):
    def test_seeded_values(self):
        source = random.Random(6)
        for radices in ((), (2,), (1000,), (24, 60), (2, 1000, 3), (1000,) * 4):
            units = math.prod(radices)
            for size in (1, 50, 10 ** 39):
                for _ in range(20):
                    value = f(source.randint(-size, size), source.randint(1, size))
                    self.check(value, radices, units)
            for number in (-3, -1, 0, 1, 2):
                self.check(f(number, units), radices, units)
                self.check(f(2 * number + 1, 2 * units), radices, units)

    def check(self, value, radices, units):
        answer = mixed_of(value, radices=radices)
        self.assertIs(type(answer), tuple)
        count, rest = answer
        self.assertEqual(count.radices, radices)
        self.assertEqual(num(count.worth) * units, math.floor(num(value) * units))
        self.assert_fraction(rest)
        self.assertEqual(num(rest), (num(value) - num(count.worth)) * units)
        near = nearest_mixed(value, radices=radices)
        self.assertEqual(near.radices, radices)
        self.assertEqual(num(near.worth) * units, math.floor(num(value) * units + num((1, 2))))

    def test_ties_take_the_greater(self):
        self.assertEqual(nearest_mixed((1, 2), radices=()), Mixed(1))
        self.assertEqual(nearest_mixed((-1, 2), radices=()), Mixed(0))
        self.assertEqual(nearest_mixed((-3, 2), radices=()), Mixed(-1))
        self.assertEqual(nearest_mixed((-1, 8), radices=(4,)), Mixed(0, (0,), radices=(4,)))
        self.assertEqual(nearest_mixed((7, 8), radices=(4,)), Mixed(1, (0,), radices=(4,)))

    def test_rest(self):
        self.assertEqual(mixed_of((-1, 3), radices=()), (Mixed(-1), (2, 3)))
        self.assertEqual(mixed_of((1, 3), radices=(2,)), (Mixed(0, (0,), radices=(2,)), (2, 3)))

    def test_wrong_forms(self):
        for call in (mixed_of, nearest_mixed):
            for value in not_fractions():
                self.assert_bad("value", call, value, radices=(24,))
                self.assert_bad("value", call, value, radices=None)
            for radices in WRONG_RADICES + objects():
                self.assert_bad("radices", call, (1, 2), radices=radices)
