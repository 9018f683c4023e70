"""Fractions: tuples (top, bottom) of integers in lowest terms, bottom from 1 on."""

from math import gcd


def ratio(top, bottom):
    """The fraction of two integers, from 0 and from 1 on."""
    common = gcd(top, bottom)
    return (top // common, bottom // common)
