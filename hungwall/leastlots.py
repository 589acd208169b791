"""Lots that meet all ways of a kind, and the least lots that hold or meet ways."""

from hungwall.lots import is_lot, others_than
from hungwall.needs import need
from hungwall.straightways import straight_in
from hungwall.twoways import way_within
from hungwall.waykinds import need_kind, other_kind


def lots_on_straight(plan, kind):
    """The set of the lots of the straight ways of this kind of what is known to be a plan."""
    return tuple(sorted([tuple(sorted(way)) for way in straight_in(plan, kind)]))


def meets_ways(plan, kind, lot):
    """Whether each way of this kind has a picture in a lot."""
    need_kind(plan, kind)
    need(is_lot(len(plan), lot), "lot")
    return len(way_within(plan, kind, others_than(plan, lot))) == 0


def least_lots(plan, kind):
    """The set of the lots that hold a way of this kind, while no other lot within them does."""
    need_kind(plan, kind)
    return lots_on_straight(plan, kind)


def least_meeting(plan, kind):
    """The set of the lots that meet each way of this kind, while no other lot within them does."""
    need_kind(plan, kind)
    return lots_on_straight(plan, other_kind(kind))
