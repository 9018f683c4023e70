"""Fractions: tuples (top, bottom) of integers in lowest terms, bottom from 1 on."""

from math import gcd


def ratio(top, bottom):
    """The fraction of two integers, from 0 and from 1 on."""
    common = gcd(top, bottom)
    return (top // common, bottom // common)


def ratio_sum(fractions):
    """The sum of fractions, (0, 1) of none."""
    total = (0, 1)
    for top, bottom in fractions:
        total = ratio(total[0] * bottom + top * total[1], total[1] * bottom)
    return total
