"""What a wall by some shapes tells of the wall by others."""

from hungwall.kinds import is_shapes
from hungwall.leastwidths import heights_by, widths_in
from hungwall.needs import need
from hungwall.quotients import product_of_two, ratio_of_two
from hungwall.sums import sum_of_row
from hungwall.tables import need_shapes, weight_in


def need_others(plan, shapes, others):
    """Refuse the first of a plan, its shapes and other shapes of it that is not as stated."""
    need_shapes(plan, shapes)
    need(is_shapes(len(plan), others), "others")


def bracket(plan, shapes, others):
    """The pair of what the height by others is at least, and at most, by the wall of the shapes."""
    need_others(plan, shapes, others)
    widths = widths_in(plan, shapes)
    heights = heights_by(shapes, widths)
    tall = weight_in(shapes, widths)
    parts = [ratio_of_two(product_of_two(height, height), other) for height, other in zip(heights, others)]
    low = ratio_of_two(product_of_two(tall, tall), sum_of_row(parts))
    return (low, weight_in(others, widths))


def same_widths(plan, shapes, others):
    """Whether each box has the same width by shapes and by others."""
    need_others(plan, shapes, others)
    return widths_in(plan, shapes) == widths_in(plan, others)


def heights_over_all(plan, shapes):
    """The tuple of the heights of the boxes over the height of the wall."""
    widths = widths_in(plan, shapes)
    tall = weight_in(shapes, widths)
    return tuple([ratio_of_two(height, tall) for height in heights_by(shapes, widths)])


def same_heights(plan, shapes, others):
    """Whether the heights of the boxes by shapes and by others are in one proportion."""
    need_others(plan, shapes, others)
    # Along a shortest upright way the heights add up to the wall's: it is in the same proportion.
    return heights_over_all(plan, shapes) == heights_over_all(plan, others)
