"""Tests of leap words [2] [4] [5] [6] [7] [25] [41] [42] [43]."""

import itertools
import random
from fractions import Fraction

from tests.helpers import SkyCase, f, not_fractions, not_integers, num, odd_values
from tests.test_approx import slow_nearest
from wheelsky.leaps import best_index, best_word, even_turn, is_even_word, leap_rule, leap_word, word_error

NOT_LONGS = not_integers() + [-1, 101, 10 ** 39]
NOT_LENGTHS = not_integers() + [0, -1, 101, 10 ** 39]
NOT_TURNS = not_integers() + [-1, 100, 10 ** 39]


def is_zero_one(value):
    """Tell whether the value is a tuple of integers 0 and 1."""
    return type(value) is tuple and all(type(item) is int and item in (0, 1) for item in value)


def not_words():
    """Return values that are no words."""
    wrong = [value for value in odd_values() if not is_zero_one(value) or not value]
    wrong += [(), (0,) * 101, (0, 1) * 51, [0, 1], [1], (0, 2), (-1, 0), (True, 0), (0, False), (True,), (0, 1.0), "01"]
    return wrong + [(0, None), ((0, 1),), (0, (1,)), (10 ** 39,), 1, 0, {0: 1}, (0, "1")]


def slow_word(longs, length, turn):
    """Return the leap word from the meaning."""
    return tuple(((i + 1) * longs + turn) // length - (i * longs + turn) // length for i in range(length))


def slow_is_even(word):
    """Judge a word by the sums of all its stretches."""
    twice = word + word
    for many in range(1, len(word) + 1):
        sums = [sum(twice[at:at + many]) for at in range(len(word))]
        if max(sums) - min(sums) > 1:
            return False
    return True


def slow_error(word):
    """Return the error of a word, as a number."""
    mean = Fraction(sum(word), len(word))
    return max(abs(sum(word[:i]) - i * mean) for i in range(len(word) + 1))


def pairs(most):
    """Return all pairs of longs and lengths up to a length."""
    return [(longs, length) for length in range(1, most + 1) for longs in range(length + 1)]


class LeapWordTest(SkyCase):
    def test_examples(self):
        self.assertEqual(leap_word(2, 5), (0, 0, 1, 0, 1))
        self.assertEqual(leap_word(2, 5, turn=2), (0, 1, 0, 1, 0))
        self.assertEqual(word_error(leap_word(2, 5)), (4, 5))
        self.assertEqual((best_word(2, 5), word_error(best_word(2, 5)), best_index(2, 5)), ((0, 1, 0, 1, 0), (2, 5), 1))

    def test_all_small(self):
        for longs, length in pairs(14):
            for turn in range(length):
                word = leap_word(longs, length, turn=turn)
                self.assertEqual(word, slow_word(longs, length, turn))
                self.assertEqual((type(word), len(word), sum(word)), (tuple, length, longs))
                self.assertEqual([type(item) for item in word], [int] * length)
            self.assertEqual(leap_word(longs, length), leap_word(longs, length, turn=0))

    def test_edges(self):
        self.assertEqual(leap_word(0, 1), (0,))
        self.assertEqual(leap_word(1, 1, turn=0), (1,))
        for length in (1, 2, 99, 100):
            for turn in (0, length - 1):
                self.assertEqual(leap_word(0, length, turn=turn), (0,) * length)
                self.assertEqual(leap_word(length, length, turn=turn), (1,) * length)
        self.assertEqual(leap_word(1, 100, turn=99), (1,) + (0,) * 99)
        self.assertEqual(leap_word(1, 100), (0,) * 99 + (1,))
        self.assertEqual(leap_word(37, 100, turn=99), slow_word(37, 100, 99))

    def test_mismatch(self):
        for longs, length, turn in ((2, 1, 0), (100, 99, 0), (1, 1, 1), (0, 5, 5), (5, 5, 99), (6, 5, 5), (50, 99, 99)):
            self.assert_mismatch(leap_word, longs, length, turn=turn)
        self.assert_mismatch(leap_word, 2, 1)
        for call in (best_word, best_index):
            self.assert_mismatch(call, 2, 1)
            self.assert_mismatch(call, 100, 99)

    def test_forms(self):
        for longs in NOT_LONGS:
            self.assert_bad("longs", leap_word, longs, None, turn=None)
            self.assert_bad("longs", best_word, longs, None)
            self.assert_bad("longs", best_index, longs, 0)
        for length in NOT_LENGTHS:
            self.assert_bad("length", leap_word, 100, length, turn=None)
            self.assert_bad("length", best_word, 100, length)
            self.assert_bad("length", best_index, 0, length)
        for turn in NOT_TURNS:
            self.assert_bad("turn", leap_word, 100, 1, turn=turn)
            self.assert_bad("turn", leap_word, 0, 1, turn=turn)


class EvenWordTest(SkyCase):
    def test_all_short_words(self):
        found = 0
        for length in range(1, 11):
            words = {slow_word(longs, length, turn) for longs in range(length + 1) for turn in range(length)}
            for word in itertools.product((0, 1), repeat=length):
                even = slow_is_even(word)
                self.assertIs(is_even_word(word), even)
                self.assertEqual(word in words, even)
                turns = [turn for turn in range(length) if slow_word(sum(word), length, turn) == word]
                self.assertEqual(even_turn(word), turns[0] if turns else None)
                found += even
        self.assertGreater(found, 200)

    def test_long_words(self):
        source = random.Random(1)
        for _ in range(40):
            length = source.choice((100, 99, 64, 31))
            word = slow_word(source.randint(0, length), length, source.randrange(length))
            self.assert_true(is_even_word(word))
            self.assertEqual(slow_word(sum(word), length, even_turn(word)), word)
            at = source.randrange(length)
            changed = word[:at] + (1 - word[at],) + word[at + 1:]
            self.assertIs(is_even_word(changed), slow_is_even(changed))
            self.assertEqual(even_turn(changed) is None, not slow_is_even(changed))

    def test_the_first_item_follows_the_last(self):
        self.assert_false(is_even_word((1, 0, 0, 1)))
        self.assert_true(is_even_word((0, 1, 0, 1)))
        self.assertIsNone(even_turn((1, 0, 0, 1)))

    def test_the_least_turn(self):
        self.assertEqual(even_turn((0, 0, 1, 0, 1)), 0)
        self.assertEqual(even_turn((0, 1, 0, 1, 0)), 2)
        # Several turns give this word.
        self.assertEqual(even_turn((0, 0, 0)), 0)
        self.assertEqual(even_turn((1, 0, 1, 0)), 2)
        self.assertEqual(even_turn((1,) + (0,) * 99), 99)

    def test_judge_values_of_every_kind(self):
        for value in not_words():
            self.assert_false(is_even_word(value))
        for value in odd_values():
            if is_zero_one(value) and value:
                self.assertIs(is_even_word(value), slow_is_even(value))
        self.assert_true(is_even_word((0,) * 100))
        self.assert_true(is_even_word((1,)))

    def test_forms(self):
        for word in not_words():
            self.assert_bad("word", even_turn, word)
            self.assert_bad("word", word_error, word)


class ErrorTest(SkyCase):
    def test_all_short_words(self):
        for length in range(1, 10):
            for word in itertools.product((0, 1), repeat=length):
                error = word_error(word)
                self.assert_fraction(error)
                self.assertEqual(error, f(slow_error(word)))

    def test_edges(self):
        self.assertEqual(word_error((0,)), (0, 1))
        self.assertEqual(word_error((1,) * 100), (0, 1))
        self.assertEqual(word_error((1,) * 50 + (0,) * 50), (25, 1))
        self.assertEqual(word_error((0,) * 50 + (1,) * 50), (25, 1))

    def test_best_words_and_indexes(self):
        for longs, length in pairs(24) + [(37, 100), (50, 100), (99, 100), (1, 100), (0, 100), (100, 100), (60, 99)]:
            words = [slow_word(longs, length, turn) for turn in range(length)]
            errors = [slow_error(word) for word in words]
            best = best_word(longs, length)
            self.assertEqual(best, words[errors.index(min(errors))])
            self.assertEqual(type(best), tuple)
            shares = [Fraction(i * longs, length) % 1 for i in range(length)]
            distances = [min(share, 1 - share) for share in shares]
            self.assertEqual(best_index(longs, length), distances.index(max(distances)))
            # The distance at that index shows that no word does better.
            self.assertEqual(word_error(best), f(max(distances)))

    def test_several_best(self):
        # With 2 of 4 two words have the least error; the turn 0 gives the first one.
        self.assertEqual(best_word(0, 7), (0,) * 7)
        self.assertEqual(best_word(2, 4), (0, 1, 0, 1))
        self.assertEqual(word_error((1, 0, 1, 0)), word_error((0, 1, 0, 1)))
        self.assertEqual(best_index(0, 7), 0)
        self.assertEqual(best_index(7, 7), 0)
        self.assertEqual(best_index(2, 4), 1)
        self.assertEqual(best_index(1, 4), 2)
        self.assertEqual(best_index(1, 3), 1)

    def test_no_word_does_better(self):
        for longs, length in pairs(9):
            words = [word for word in itertools.product((0, 1), repeat=length) if sum(word) == longs]
            self.assertEqual(word_error(best_word(longs, length)), f(min(slow_error(word) for word in words)))


class LeapRuleTest(SkyCase):
    def test_plain(self):
        self.assertEqual(leap_rule((0, 1), most=1), (0, 1))
        self.assertEqual(leap_rule((1, 1), most=1), (1, 1))
        self.assertEqual(leap_rule((1211, 5000), most=33), (8, 33))
        self.assertEqual(leap_rule((1211, 5000), most=4), (1, 4))
        self.assertEqual(leap_rule((1, 4), most=100), (1, 4))

    def test_ties(self):
        self.assertEqual(leap_rule((1, 2), most=1), (0, 1))
        self.assertEqual(leap_rule((3, 4), most=2), (1, 1))
        self.assertEqual(leap_rule((1, 4), most=2), (0, 1))
        self.assertEqual(leap_rule((5, 12), most=3), (1, 2))

    def test_seeded(self):
        source = random.Random(2)
        for digits in (1, 2, 39):
            for _ in range(40):
                bottom = source.randint(1, 10 ** digits)
                value = f(source.randint(0, bottom), bottom)
                for most in (1, 2, 7, 100):
                    longs, length = leap_rule(value, most=most)
                    self.assertEqual((longs, length), f(slow_nearest(num(value), most)))
                    self.assertTrue(0 <= longs <= length <= most)
                    self.assertEqual(sum(leap_word(longs, length)), longs)

    def test_forms(self):
        wrong = not_fractions() + [(-1, 2), (-1, 10 ** 39), (3, 2), (2, 1), (10 ** 39 + 1, 10 ** 39), (-1, 1)]
        for value in wrong:
            self.assert_bad("value", leap_rule, value, most=None)
        for most in not_integers() + [0, -1, 101, 1000000]:
            self.assert_bad("most", leap_rule, (1, 2), most=most)
