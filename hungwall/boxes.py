"""Where boxes are. Nothing is checked here: boxes and edges are as stated.

The edges of a box are the quadruple of its left, its right, its floor and its
upper end.
"""

from hungwall.places import E, N, W
from hungwall.quotients import lies_below, product_of_two, sum_of_two

NOUGHT = (0, 1)
UNIT = (1, 1)


def has_size(box):
    """Whether a box is no point."""
    return box[2][0] > 0


def edges_of(box):
    """The edges of a box."""
    left, floor, width, height = box
    return (left, sum_of_two(left, width), floor, sum_of_two(floor, height))


def sized_in(boxes):
    """The lot of the boxes that are no points."""
    return tuple([picture for picture, box in enumerate(boxes) if has_size(box)])


def common_point(one, other):
    """Whether what has these edges has a common point."""
    across = not lies_below(one[1], other[0]) and not lies_below(other[1], one[0])
    return across and not lies_below(one[3], other[2]) and not lies_below(other[3], one[2])


def common_inside(one, other):
    """Whether what has these edges, both with size, has a common inner point."""
    across = lies_below(one[0], other[1]) and lies_below(other[0], one[1])
    return across and lies_below(one[2], other[3]) and lies_below(other[2], one[3])


def in_frame(edges, height):
    """Whether what has these edges, none below 0, is within the frame of this height."""
    return not lies_below(UNIT, edges[1]) and not lies_below(height, edges[3])


def meets_side(edges, height, side):
    """Whether what has these edges meets a side of the frame of this height."""
    if side == W:
        return edges[0] == NOUGHT
    if side == N:
        return edges[3] == height
    if side == E:
        return edges[1] == UNIT
    return edges[2] == NOUGHT


def moved_boxes(boxes, factor, left, floor):
    """The list of the boxes with all quotients times a factor, and then moved right and up."""
    found = []
    for box in boxes:
        parts = [product_of_two(part, factor) for part in box]
        found.append((sum_of_two(parts[0], left), sum_of_two(parts[1], floor), parts[2], parts[3]))
    return found
