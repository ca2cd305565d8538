"""Ratios: pairs (top, bottom) of integers without a common divisor greater than 1, the bottom positive.

This file is for the package.
"""

from math import gcd

from firstthere.checks import is_pair, is_plain_integer

NONE_AT_ALL = (0, 1)
SURE = (1, 1)


def ratio(top, bottom):
    """The ratio of an integer to a positive one."""
    common = gcd(top, bottom)
    return (top // common, bottom // common)


def sum_of(ratios):
    top = 0
    bottom = 1
    for each_top, each_bottom in ratios:
        top, bottom = ratio(top * each_bottom + each_top * bottom, bottom * each_bottom)
    return (top, bottom)


def less(one, other):
    """The first ratio less the second one."""
    return sum_of([one, (-other[0], other[1])])


def mean_place(chances):
    """The mean of 0, 1, 2, .. that come by these chances."""
    return sum_of([ratio(place * top, bottom) for place, (top, bottom) in enumerate(chances)])


def is_at_least(value, number):
    """Whether a ratio is at least an integer."""
    top, bottom = value
    return top >= number * bottom


def is_ratio(value):
    if not is_pair(value) or not is_plain_integer(value[0]) or not is_plain_integer(value[1]):
        return False
    return value[1] > 0 and gcd(value[0], value[1]) == 1


def are_ratios(value, many):
    if not isinstance(value, tuple) or len(value) != many:
        return False
    return all(is_ratio(each) for each in value)


def are_amounts(value, many):
    """Whether the value is a tuple of so many ratios from 0 on."""
    return are_ratios(value, many) and all(top >= 0 for top, _ in value)
