"""Shapes for a way, for a border, and for a point."""

from hungwall.fatepapers import fate_shown
from hungwall.followings import first_by
from hungwall.needs import need
from hungwall.places import is_picture
from hungwall.planchecker import is_plan
from hungwall.pointshapes import shapes_of_point
from hungwall.straightways import straight_in
from hungwall.waykinds import goes_straight, need_kind
from hungwall.wayshapes import way_shapes


def shapes_for(plan, kind, way):
    """The shapes by which a line half-way through the wall meets the pictures of a straight way."""
    need_kind(plan, kind)
    need(goes_straight(plan, kind, way), "way")
    return way_shapes(len(plan), kind, way)


def shapes_by(plan, kind, one, other):
    """Any shapes by which one hangs left of other, or above it, with a border; or None."""
    need_kind(plan, kind)
    need(is_picture(len(plan), one), "one")
    need(is_picture(len(plan), other), "other")
    way = first_by(straight_in(plan, kind), one, other)
    if way is None:
        return None
    return way_shapes(len(plan), kind, way)


def point_shapes(plan, picture):
    """Any shapes by which a picture is a point; None if it is never one."""
    need(is_plan(plan), "plan")
    need(is_picture(len(plan), picture), "picture")
    paper = fate_shown(plan, picture)
    if paper[0] == "never":
        return None
    if paper[0] == "always":
        return ((1, 1),) * len(plan)
    return shapes_of_point(plan, paper[1])
