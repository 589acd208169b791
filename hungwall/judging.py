"""The checker of walls of a plan and of shapes."""

from hungwall.boxes import common_inside, common_point, edges_of, has_size, in_frame, meets_side
from hungwall.errors import InvalidPaper
from hungwall.places import SIDES
from hungwall.quotients import product_of_two
from hungwall.tables import need_shapes
from hungwall.walls import has_form


def check_heights_and_sides(plan, shapes, tall, boxes):
    """Refuse the first box that is not of its shape, leaves the frame, or misses a side."""
    for i, box in enumerate(boxes):
        if box[3] != product_of_two(shapes[i], box[2]):
            raise InvalidPaper("height", i)
        edges = edges_of(box)
        if not in_frame(edges, tall):
            raise InvalidPaper("frame", i)
        for side in SIDES:
            if side in plan[i] and not meets_side(edges, tall, side):
                raise InvalidPaper("side", (i, side))


def check_pairs(plan, boxes):
    """Refuse the first two boxes that should meet and do not, or that lie on one another."""
    edges = [edges_of(box) for box in boxes]
    for i, one in enumerate(edges):
        for j in range(i + 1, len(edges)):
            if j in plan[i] and not common_point(one, edges[j]):
                raise InvalidPaper("tie", (i, j))
            if has_size(boxes[i]) and has_size(boxes[j]) and common_inside(one, edges[j]):
                raise InvalidPaper("overlap", (i, j))


def lets_hung(plan, shapes, thing):
    """The height of the wall of a plan and of shapes; InvalidPaper for any other value."""
    need_shapes(plan, shapes)
    if not has_form(thing) or len(thing[1]) != len(plan):
        raise InvalidPaper("form", -1)
    tall, boxes = thing
    check_heights_and_sides(plan, shapes, tall, boxes)
    check_pairs(plan, boxes)
    return tall
