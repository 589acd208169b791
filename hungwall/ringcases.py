"""How what is inside a ring of four hangs in the wall of the whole."""

from hungwall.circles import from_place
from hungwall.hanging import hung_in
from hungwall.insides import inner_plan, shut_plan
from hungwall.leastwidths import height_in
from hungwall.leftplaces import place_on_left
from hungwall.needs import need
from hungwall.rings import is_clockwise_ring
from hungwall.tables import need_shapes


def need_shaped_ring(plan, shapes, ring):
    """Refuse the first of a plan, its shapes and a clockwise ring of four that is not as stated."""
    need_shapes(plan, shapes)
    need(is_clockwise_ring(plan, ring), "ring")


def shapes_at(shapes, lot):
    """The tuple of the shapes of a lot."""
    return tuple([shapes[picture] for picture in lot])


def inner_height(plan, shapes, ring):
    """The height of the wall of the inner plan of a ring."""
    inner, inside = inner_plan(plan, ring)
    return height_in(inner, shapes_at(shapes, inside))


def left_of_inside(plan, shapes, ring):
    """The place of the ring that is left of what is inside; None if all inside are points."""
    shut, kept = shut_plan(plan, ring)
    # The case does not depend on the shape of the picture that stands for all inside.
    _, boxes = hung_in(shut, shapes_at(shapes, kept) + ((1, 1),))
    left = place_on_left(boxes, len(kept), shut[-1])
    if left is None or left < 0:
        return left
    return kept[left]


def ring_heights(plan, shapes, ring):
    """The pair of the heights of what is inside, with the ring's first place on the left and with its last one."""
    need_shaped_ring(plan, shapes, ring)
    return (inner_height(plan, shapes, ring), inner_height(plan, shapes, from_place(ring, ring[3])))


def ring_case(plan, shapes, ring):
    """The case of a ring: which places are beside what is inside, its height, and which place is on the left."""
    need_shaped_ring(plan, shapes, ring)
    left = left_of_inside(plan, shapes, ring)
    if left is None:
        return ("points",)
    height = inner_height(plan, shapes, from_place(ring, left))
    if left in (ring[0], ring[2]):
        return ("first", height, left)
    return ("second", height, left)
