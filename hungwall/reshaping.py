"""The shape of one picture changed."""

from hungwall.kinds import is_positive, is_shape_row
from hungwall.leastwidths import widths_in
from hungwall.needs import need
from hungwall.places import is_picture
from hungwall.tables import need_shapes


def reshaped_in(shapes, picture, shape):
    """The shapes with another one of a picture, all known to fit."""
    return shapes[:picture] + (shape,) + shapes[picture + 1:]


def reshaped(shapes, picture, shape):
    """The shapes with another one of a picture."""
    need(is_shape_row(shapes) and len(shapes) > 0, "shapes")
    need(is_picture(len(shapes), picture), "picture")
    need(is_positive(shape), "shape")
    return reshaped_in(shapes, picture, shape)


def rises(plan, shapes, picture):
    """Whether the wall becomes higher if the shape of just this picture is made greater."""
    need_shapes(plan, shapes)
    need(is_picture(len(plan), picture), "picture")
    # Just the pictures that are not points raise the height.
    return widths_in(plan, shapes)[picture][0] > 0
