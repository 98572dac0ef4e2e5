"""Words of 0 and 1 that spread long years evenly."""

from wheelsky.approx import nearest
from wheelsky.errors import Mismatch
from wheelsky.forms import is_whole_within, require
from wheelsky.ratios import ONE, compare, fraction, is_fraction

LONGEST_WORD = 100


def is_word(value):
    """Tell whether the value is a word: a tuple of 1 to 100 integers, each 0 or 1."""
    if not isinstance(value, tuple) or not 1 <= len(value) <= LONGEST_WORD:
        return False
    return all([is_whole_within(item, 0, 1) for item in value])


def leap_word(longs, length, *, turn=0):
    """Return the leap word with so many items 1 among `length`, turned by `turn`."""
    require(_is_longs(longs), "longs")
    require(_is_length(length), "length")
    require(is_whole_within(turn, 0, LONGEST_WORD - 1), "turn")
    if longs > length or turn >= length:
        raise Mismatch()
    return _leap_word(longs, length, turn)


def is_even_word(word):
    """Judge whether the word is even, which leap words alone are."""
    return is_word(word) and even_turn(word) is not None


def even_turn(word):
    """Return the least turn with which the word is a leap word, or None."""
    require(is_word(word), "word")
    for turn in range(len(word)):
        if _leap_word(sum(word), len(word), turn) == word:
            return turn
    return None


def word_error(word):
    """Return the greatest difference between a sum of first items and its even share."""
    require(is_word(word), "word")
    return fraction(_scaled_error(word), len(word))


def best_word(longs, length):
    """Return the leap word with the least error, of several the one with the least turn."""
    require(_is_longs(longs), "longs")
    require(_is_length(length), "length")
    if longs > length:
        raise Mismatch()
    return min([_leap_word(longs, length, turn) for turn in range(length)], key=_scaled_error)


def best_index(longs, length):
    """Return the least index at which the even share is farthest from the integers."""
    require(_is_longs(longs), "longs")
    require(_is_length(length), "length")
    if longs > length:
        raise Mismatch()
    distances = [min(index * longs % length, -index * longs % length) for index in range(length)]
    return distances.index(max(distances))


def leap_rule(value, *, most):
    """Return the nearest fraction to a value from 0 to 1 as (longs, length)."""
    require(is_fraction(value) and value[0] >= 0 and compare(value, ONE) <= 0, "value")
    require(is_whole_within(most, 1, LONGEST_WORD), "most")
    return nearest(value, most=most)


def _is_longs(value):
    return is_whole_within(value, 0, LONGEST_WORD)


def _is_length(value):
    return is_whole_within(value, 1, LONGEST_WORD)


def _leap_word(longs, length, turn):
    sums = [(index * longs + turn) // length for index in range(length + 1)]
    return tuple([after - before for before, after in zip(sums, sums[1:])])


def _scaled_error(word):
    """Return the error of the word times its length, an integer."""
    most = 0
    reached = 0
    for index, item in enumerate(word, start=1):
        reached = reached + item
        most = max(most, abs(reached * len(word) - index * sum(word)))
    return most
