"""Kinds of values: integers, quotients, shapes, tables."""

from math import gcd

from hungwall.needs import need


def is_integer(thing):
    """Whether any value is an integer; True and False are none."""
    return isinstance(thing, int) and not isinstance(thing, bool)


def is_number(thing):
    """Whether any value is an integer of at least 0."""
    return is_integer(thing) and thing >= 0


def is_quotient(thing):
    """Whether any value is a quotient: a pair (top, bottom) in lowest terms."""
    if not isinstance(thing, tuple) or len(thing) != 2:
        return False
    top, bottom = thing
    if not is_integer(top) or not is_integer(bottom):
        return False
    return bottom >= 1 and gcd(top, bottom) == 1


def is_positive(thing):
    """Whether any value is a quotient above nought."""
    return is_quotient(thing) and thing[0] > 0


def is_row(thing):
    """Whether any value is a tuple of quotients, perhaps empty."""
    return isinstance(thing, tuple) and all([is_quotient(part) for part in thing])


def is_shape_row(thing):
    """Whether any value is a tuple of positive quotients, perhaps empty."""
    return is_row(thing) and all([part[0] > 0 for part in thing])


def is_shapes(many, thing):
    """Whether any value is shapes of so many pictures."""
    need(is_number(many), "many")
    return is_shape_row(thing) and len(thing) == many


def is_table(many, thing):
    """Whether any value is a table for so many pictures."""
    need(is_number(many), "many")
    return is_row(thing) and len(thing) == many and all([part[0] >= 0 for part in thing])
