"""Stretches: from which shape to which other one each picture may be chosen."""

from hungwall.kinds import is_number, is_positive, is_shapes
from hungwall.needs import need
from hungwall.quotients import lies_below


def is_stretch(thing):
    """Whether any value is a pair of positive quotients, the first at most the second."""
    if not isinstance(thing, tuple) or len(thing) != 2:
        return False
    low, high = thing
    return is_positive(low) and is_positive(high) and not lies_below(high, low)


def is_stretch_row(thing):
    """Whether any value is stretches of any number of pictures."""
    return isinstance(thing, tuple) and all([is_stretch(part) for part in thing])


def low_ends(stretches):
    """The tuple of the low ends of what is known to be stretches."""
    return tuple([stretch[0] for stretch in stretches])


def high_ends(stretches):
    """The tuple of the high ends of what is known to be stretches."""
    return tuple([stretch[1] for stretch in stretches])


def first_outside(stretches, shapes):
    """The first picture whose shape is not within its stretch, or None; all known to fit."""
    for picture, shape in enumerate(shapes):
        low, high = stretches[picture]
        if lies_below(shape, low) or lies_below(high, shape):
            return picture
    return None


def is_stretches(many, thing):
    """Whether any value is stretches of so many pictures."""
    need(is_number(many), "many")
    return is_stretch_row(thing) and len(thing) == many


def lows_of(stretches):
    """The tuple of the low ends."""
    need(is_stretch_row(stretches), "stretches")
    return low_ends(stretches)


def highs_of(stretches):
    """The tuple of the high ends."""
    need(is_stretch_row(stretches), "stretches")
    return high_ends(stretches)


def lies_in(stretches, shapes):
    """Whether shapes lie within the stretches."""
    need(is_stretch_row(stretches), "stretches")
    need(is_shapes(len(stretches), shapes), "shapes")
    return first_outside(stretches, shapes) is None
