"""Pictures that shrink to points by given shapes, and the specks that they make."""

from hungwall.leastwidths import widths_in
from hungwall.lots import parts_in, rim_in
from hungwall.tables import need_shapes


def points_by(widths):
    """The lot of the pictures without a width."""
    return tuple([picture for picture, width in enumerate(widths) if width[0] == 0])


def points_in(plan, shapes):
    """The lot of the pictures that are points in the wall."""
    need_shapes(plan, shapes)
    return points_by(widths_in(plan, shapes))


def specks(plan, shapes):
    """The set of the pairs of a part of the lot of all points and its rim."""
    need_shapes(plan, shapes)
    lot = points_by(widths_in(plan, shapes))
    return tuple([(part, rim_in(plan, part)) for part in parts_in(plan, lot)])
