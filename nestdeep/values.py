"""Kinds of plain values: integers, lists, fractions, and numbers in texts."""

from math import gcd


def is_whole_number(value):
    """Whether this is an integer; True and False are none."""
    return isinstance(value, int) and not isinstance(value, bool)


def is_count(value, least):
    """Whether this is an integer from least on."""
    return isinstance(value, int) and not isinstance(value, bool) and value >= least


def is_list(value):
    """Whether this can be passed as a list; a tuple can."""
    return isinstance(value, (list, tuple))


def is_tuple_of(value, length):
    """Whether this is a tuple of so many items."""
    return isinstance(value, tuple) and len(value) == length


def is_fraction(value):
    """Whether this is a tuple (top, bottom) in lowest terms."""
    if not is_tuple_of(value, 2):
        return False
    top, bottom = value
    return is_whole_number(top) and is_count(bottom, 1) and gcd(top, bottom) == 1


def fraction(top, bottom):
    """top divided by bottom, which is at least 1, in lowest terms."""
    common = gcd(top, bottom)
    return top // common, bottom // common


def fraction_sum(fractions):
    """The sum of fractions, as one."""
    total = (0, 1)
    for top, bottom in fractions:
        total = fraction(total[0] * bottom + top * total[1], total[1] * bottom)
    return total


def number_in(word):
    """The number from 1 on that a word of a text writes, or None."""
    if not word.isdigit() or not word.isascii() or word[0] == "0":
        return None
    return int(word)
