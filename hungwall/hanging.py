"""The wall of a plan and of shapes."""

from hungwall.leastwidths import heights_by, widths_in
from hungwall.lengths import aheads_in
from hungwall.quotients import difference_of_two, sum_of_two
from hungwall.tables import need_shapes, weight_in


def hung_in(plan, shapes):
    """The wall of a plan and of shapes that are known to fit."""
    widths = widths_in(plan, shapes)
    heights = heights_by(shapes, widths)
    tall = weight_in(shapes, widths)
    # A level line left of a box meets a level way to it; an upright one above it, an upright way.
    lefts = aheads_in(plan, "level", widths)
    depths = aheads_in(plan, "upright", heights)
    boxes = []
    for left, depth, width, height in zip(lefts, depths, widths, heights):
        floor = difference_of_two(tall, sum_of_two(depth, height))
        boxes.append((left, floor, width, height))
    return (tall, tuple(boxes))


def hung(plan, shapes):
    """The wall of a plan and of shapes."""
    need_shapes(plan, shapes)
    return hung_in(plan, shapes)
