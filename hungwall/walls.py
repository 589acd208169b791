"""Boxes and walls: whether a value is one, and what boxes have size."""

from hungwall.boxes import common_inside, edges_of, has_size, in_frame, sized_in
from hungwall.kinds import is_positive, is_table
from hungwall.needs import need
from hungwall.quotients import product_of_two, ratio_of_two
from hungwall.sums import sum_of_row


def is_box(thing):
    """Whether any value is a box: a point, or one with size."""
    return is_table(4, thing) and (thing[2][0] > 0) == (thing[3][0] > 0)


def has_form(thing):
    """Whether any value is a pair of a positive quotient and a tuple of boxes, not empty."""
    if not isinstance(thing, tuple) or len(thing) != 2 or not is_positive(thing[0]):
        return False
    boxes = thing[1]
    return isinstance(boxes, tuple) and len(boxes) > 0 and all([is_box(box) for box in boxes])


def lie_apart(boxes):
    """Whether no two boxes with size have a common inner point."""
    edges = [edges_of(box) for box in boxes if has_size(box)]
    for at, one in enumerate(edges):
        if any([common_inside(one, other) for other in edges[at + 1:]]):
            return False
    return True


def is_hanging(thing):
    """Whether any value is a wall, of whatever plan."""
    if not has_form(thing):
        return False
    height, boxes = thing
    if not all([in_frame(edges_of(box), height) for box in boxes]):
        return False
    areas = [product_of_two(box[2], box[3]) for box in boxes]
    return sum_of_row(areas) == height and lie_apart(boxes)


def is_filling(thing):
    """Whether any value is a wall without points."""
    return is_hanging(thing) and all([has_size(box) for box in thing[1]])


def shapes_by(boxes):
    """The tuple of height over width of each of these boxes, all with size."""
    return tuple([ratio_of_two(box[3], box[2]) for box in boxes])


def has_points(wall):
    """Whether a box of a wall is a point."""
    need(is_hanging(wall), "wall")
    return not all([has_size(box) for box in wall[1]])


def sizes_in(wall):
    """The lot of the pictures whose boxes have size."""
    need(is_hanging(wall), "wall")
    return sized_in(wall[1])


def shapes_in(filling):
    """The shapes of the boxes of a filling."""
    need(is_filling(filling), "filling")
    return shapes_by(filling[1])
