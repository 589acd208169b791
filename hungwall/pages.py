"""Shapes within stretches by which a wall fits a page of told height."""

from hungwall.errors import Unfit
from hungwall.hanging import hung_in
from hungwall.kinds import is_positive
from hungwall.leastwidths import height_in, widths_in
from hungwall.needs import need
from hungwall.ownfits import own_shape_in
from hungwall.quotients import lies_below
from hungwall.ranges import need_stretches, raised_shapes
from hungwall.reshaping import reshaped_in
from hungwall.slices import level_in
from hungwall.stretches import high_ends, low_ends


def need_page(plan, stretches, height):
    """Refuse the first of a plan, its stretches and a height that is not as stated."""
    need_stretches(plan, stretches)
    need(is_positive(height), "height")


def barring_of(plan, stretches, height):
    """The paper that bars a height which the stretches do not reach; None if they reach it."""
    lows, highs = low_ends(stretches), high_ends(stretches)
    if lies_below(height, height_in(plan, lows)):
        return ("low", level_in(hung_in(plan, lows)[1]))
    if lies_below(height_in(plan, highs), height):
        return ("high", widths_in(plan, highs))
    return None


def fitting_shapes(plan, stretches, height):
    """The shapes that lead to a height which the stretches reach: high ends, one shape between, low ends."""
    picture = 0
    while lies_below(height_in(plan, raised_shapes(stretches, picture + 1)), height):
        picture += 1
    shapes = raised_shapes(stretches, picture)
    # If the low ends do, so does the low end of the first picture, the least of its shapes.
    return reshaped_in(shapes, picture, own_shape_in(plan, shapes, picture, height, stretches[picture]))


def fitted_in(plan, stretches, height):
    """The shapes that lead to a height, if the stretches reach it; all known to be as stated."""
    barring = barring_of(plan, stretches, height)
    if barring is not None:
        raise Unfit(barring)
    return fitting_shapes(plan, stretches, height)


def fitted(plan, stretches, height):
    """The shapes within the stretches that lead to a height, all but one of them at an end."""
    need_page(plan, stretches, height)
    return fitted_in(plan, stretches, height)
