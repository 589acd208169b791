"""Lengths of ways, shortest ways, and how far pictures are from a side."""

from heapq import heappop, heappush

from hungwall.kinds import is_row, is_table
from hungwall.needs import need
from hungwall.places import is_picture_row
from hungwall.quotients import reduced
from hungwall.sums import over_one_bottom, sum_of_row
from hungwall.waykinds import need_kind, sides_of


def approaches(plan, first, lengths):
    """The dict of all pictures, the nearest to a side first, by integers as lengths.

    It tells for each the least sum ahead of it and the picture just ahead of
    it, -1 for the side itself.
    """
    queue = [(0, picture, -1) for picture, circle in enumerate(plan) if first in circle]
    reached = {}
    while queue:
        ahead, picture, before = heappop(queue)
        if picture not in reached:
            reached[picture] = (ahead, before)
            for place in plan[picture]:
                if place >= 0:
                    heappush(queue, (ahead + lengths[picture], place, picture))
    return reached


def least_way(plan, kind, lengths):
    """The least length, by integers, that a way of this kind has, and a way that has it."""
    first, last = sides_of(kind)
    reached = approaches(plan, first, lengths)
    ends = [picture for picture in reached if last in plan[picture]]
    length, picture = min([(reached[end][0] + lengths[end], end) for end in ends])
    way = []
    while picture >= 0:
        way.append(picture)
        picture = reached[picture][1]
    return (length, tuple(reversed(way)))


def length_in(table, way):
    """The length of a way by a table, both known to fit."""
    return sum_of_row([table[picture] for picture in way])


def shortest_in(plan, kind, table):
    """The least length of the ways of this kind, and one that has it, all known to fit."""
    tops, bottom = over_one_bottom(table)
    length, way = least_way(plan, kind, tops)
    return (reduced(length, bottom), way)


def aheads_in(plan, kind, table):
    """The least sum ahead of each picture, all known to fit."""
    tops, bottom = over_one_bottom(table)
    reached = approaches(plan, sides_of(kind)[0], tops)
    return tuple([reduced(reached[picture][0], bottom) for picture in range(len(plan))])


def need_lengths(plan, kind, table):
    """Refuse the first of a plan, a kind and a table that is not as stated."""
    need_kind(plan, kind)
    need(is_table(len(plan), table), "table")


def length_of(table, way):
    """The length of a way by a table."""
    need(is_row(table) and is_table(len(table), table), "table")
    need(is_picture_row(len(table), way), "way")
    return length_in(table, way)


def shortest_way(plan, kind, table):
    """The least length that a way of this kind has, and any way that has it."""
    need_lengths(plan, kind, table)
    return shortest_in(plan, kind, table)


def aheads(plan, kind, table):
    """The least sum over the pictures ahead of each picture."""
    need_lengths(plan, kind, table)
    return aheads_in(plan, kind, table)
