"""Sums with fractions, which are pairs (n, m) in lowest terms with m above 0."""

from math import gcd

NIL = (0, 1)
ONE = (1, 1)


def reduced(top, low):
    """Return TOP / LOW in lowest terms; LOW is not 0."""
    common = gcd(top, low)
    if low < 0:
        common = -common
    return (top // common, low // common)


def plus(first, second):
    return reduced(first[0] * second[1] + second[0] * first[1], first[1] * second[1])


def minus(first, second):
    return reduced(first[0] * second[1] - second[0] * first[1], first[1] * second[1])


def times(first, second):
    return reduced(first[0] * second[0], first[1] * second[1])


def over(first, second):
    return reduced(first[0] * second[1], first[1] * second[0])


def less_times(first, factor, second):
    """Return FIRST - FACTOR * SECOND, in one go because reducing is what takes time."""
    low = factor[1] * second[1]
    return reduced(first[0] * low - factor[0] * second[0] * first[1], first[1] * low)


def total(fractions):
    top, low = 0, 1
    for number, divisor in fractions:
        top, low = top * divisor + number * low, low * divisor
    return reduced(top, low)
