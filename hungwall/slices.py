"""Slices of walls: what level and upright lines meet."""

from hungwall.boxes import edges_of, sized_in
from hungwall.needs import need
from hungwall.quotients import difference_of_two, lies_below
from hungwall.sums import ascending, over_one_bottom
from hungwall.walls import is_hanging


def slices_by(lot, spans, ranks):
    """The slices between the ends of the spans of a lot, each with its pictures by their ranks."""
    ends = ascending([end for picture in lot for end in spans[picture]])
    found = []
    for low, high in zip(ends, ends[1:]):
        met = [picture for picture in lot if spans_over(spans[picture], low, high)]
        way = sorted(met, key=lambda picture: ranks[picture])
        found.append((tuple(way), difference_of_two(high, low)))
    return tuple(found)


def spans_over(span, low, high):
    """Whether a span has all between low and high."""
    return not lies_below(low, span[0]) and not lies_below(span[1], high)


def level_in(boxes):
    """The level slices of the boxes of a wall."""
    edges = [edges_of(box) for box in boxes]
    lefts, _ = over_one_bottom([part[0] for part in edges])
    return slices_by(sized_in(boxes), [part[2:] for part in edges], lefts)


def upright_in(boxes):
    """The upright slices of the boxes of a wall."""
    edges = [edges_of(box) for box in boxes]
    floors, _ = over_one_bottom([part[2] for part in edges])
    return slices_by(sized_in(boxes), [part[:2] for part in edges], [-floor for floor in floors])


def level_slices(wall):
    """The tuple of all level slices, from below."""
    need(is_hanging(wall), "wall")
    return level_in(wall[1])


def upright_slices(wall):
    """The tuple of all upright slices, from the left."""
    need(is_hanging(wall), "wall")
    return upright_in(wall[1])
