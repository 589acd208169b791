"""Reckoning with quotients."""

from math import gcd

from hungwall.kinds import is_quotient
from hungwall.needs import need


def reduced(top, bottom):
    """The quotient that stands for top / bottom; bottom is not 0."""
    shared = gcd(top, bottom)
    if bottom < 0:
        shared = -shared
    return (top // shared, bottom // shared)


def sum_of_two(one, other):
    """One plus other, both known to be quotients."""
    return reduced(one[0] * other[1] + other[0] * one[1], one[1] * other[1])


def product_of_two(one, other):
    """One times other, both known to be quotients."""
    return reduced(one[0] * other[0], one[1] * other[1])


def difference_of_two(one, other):
    """One minus other, both known to be quotients."""
    return reduced(one[0] * other[1] - other[0] * one[1], one[1] * other[1])


def ratio_of_two(one, other):
    """One divided by other, both known to be quotients, other not nought."""
    return reduced(one[0] * other[1], one[1] * other[0])


def lies_below(one, other):
    """Whether one is less than other, both known to be quotients."""
    return one[0] * other[1] < other[0] * one[1]


def need_two(one, other):
    """Refuse the first of one and other that is no quotient."""
    need(is_quotient(one), "one")
    need(is_quotient(other), "other")


def plus(one, other):
    """One plus other."""
    need_two(one, other)
    return sum_of_two(one, other)


def minus(one, other):
    """One minus other."""
    need_two(one, other)
    return difference_of_two(one, other)


def times(one, other):
    """One times other."""
    need_two(one, other)
    return product_of_two(one, other)


def over(one, other):
    """One divided by other, which is not nought."""
    need_two(one, other)
    need(other[0] != 0, "other")
    return ratio_of_two(one, other)


def is_less(one, other):
    """Whether one is less than other."""
    need_two(one, other)
    return lies_below(one, other)
