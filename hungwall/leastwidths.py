"""The widths and heights of the boxes of walls, and the height of walls."""

from hungwall.beststreams import best_lengths
from hungwall.quotients import product_of_two, reduced
from hungwall.tables import need_shapes, weight_in


def widths_in(plan, shapes):
    """The widths of the boxes of the wall; plan and shapes are known to fit."""
    lengths, least = best_lengths(plan, shapes)
    return tuple([reduced(length, least) for length in lengths])


def heights_by(shapes, widths):
    """The tuple of shape times width of each box."""
    return tuple([product_of_two(shape, width) for shape, width in zip(shapes, widths)])


def height_in(plan, shapes):
    """The height of the wall; plan and shapes are known to fit."""
    return weight_in(shapes, widths_in(plan, shapes))


def widths_of(plan, shapes):
    """The widths of the boxes of the wall."""
    need_shapes(plan, shapes)
    return widths_in(plan, shapes)


def height_of(plan, shapes):
    """The height of the wall."""
    need_shapes(plan, shapes)
    return height_in(plan, shapes)


def heights_of(plan, shapes):
    """The heights of the boxes of the wall."""
    need_shapes(plan, shapes)
    return heights_by(shapes, widths_in(plan, shapes))
