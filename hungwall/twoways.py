"""Ways within a lot of pictures, and ways past it."""

from hungwall.circles import spread
from hungwall.lots import is_lot, need_lot, others_than
from hungwall.needs import need
from hungwall.waykinds import need_kind, sides_of


def way_within(plan, kind, lot):
    """A way of this kind, of fewest pictures, with all its pictures in a lot; () if there is none."""
    first, last = sides_of(kind)
    reached = spread(plan, [picture for picture in lot if first in plan[picture]], lot)
    ended = [picture for picture in reached if last in plan[picture]]
    way = ended[:1]
    while way and reached[way[0]] is not None:
        way = [reached[way[0]]] + way
    return tuple(way)


def holds_way(plan, kind, lot):
    """Whether some way of this kind has all its pictures in a lot."""
    need_kind(plan, kind)
    need(is_lot(len(plan), lot), "lot")
    return len(way_within(plan, kind, lot)) > 0


def two_ways(plan, lot):
    """The pair of a kind and a way: an upright one within the lot, or a level one past it."""
    need_lot(plan, lot)
    upright = way_within(plan, "upright", lot)
    if len(upright) > 0:
        return ("upright", upright)
    return ("level", way_within(plan, "level", others_than(plan, lot)))
