"""Walls laid into boxes of other walls."""

from hungwall.boxes import has_size, moved_boxes
from hungwall.circles import from_place
from hungwall.hanging import hung_in
from hungwall.insides import inner_plan, shut_plan
from hungwall.lots import others_than
from hungwall.needs import need
from hungwall.places import is_picture
from hungwall.quotients import ratio_of_two
from hungwall.ringcases import left_of_inside, need_shaped_ring, shapes_at
from hungwall.rings import inside_in
from hungwall.walls import is_hanging


def laid_in_box(outer, picture, inner):
    """The wall with another one in the place of a box that it fills, all known to fit."""
    left, floor, width, _ = outer[1][picture]
    others = outer[1][:picture] + outer[1][picture + 1:]
    return (outer[0], others + tuple(moved_boxes(inner[1], width, left, floor)))


def wall_by_ring(plan, shapes, ring):
    """The wall of a plan, the boxes of the pictures inside the ring last; all known to fit."""
    shut, kept = shut_plan(plan, ring)
    told = shapes_at(shapes, kept)
    left = left_of_inside(plan, shapes, ring)
    if left is None:
        tall, boxes = hung_in(shut, told + ((1, 1),))
        return (tall, boxes[:-1] + boxes[-1:] * (len(plan) - len(kept)))
    # With the place on the left for W, the small wall needs no turn.
    inner, inside = inner_plan(plan, from_place(ring, left))
    small = hung_in(inner, shapes_at(shapes, inside))
    return laid_in_box(hung_in(shut, told + (small[0],)), len(kept), small)


def laid_boxes(outer, picture, inner):
    """The wall with another one in the place of a box of the same shape."""
    need(is_hanging(outer), "outer")
    need(is_picture(len(outer[1]), picture) and has_size(outer[1][picture]), "picture")
    box = outer[1][picture]
    need(is_hanging(inner) and inner[0] == ratio_of_two(box[3], box[2]), "inner")
    return laid_in_box(outer, picture, inner)


def hung_by_ring(plan, shapes, ring):
    """The wall of a plan and of shapes, put together by a ring of four."""
    need_shaped_ring(plan, shapes, ring)
    inside = inside_in(plan, ring)
    order = others_than(plan, inside) + inside
    tall, boxes = wall_by_ring(plan, shapes, ring)
    places = {picture: at for at, picture in enumerate(order)}
    return (tall, tuple([boxes[places[picture]] for picture in range(len(plan))]))
