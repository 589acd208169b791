"""Shapes by which what is inside a ring of four pictures is a point.

One picture in the place of all inside has size where one place of the ring is
left of it and the opposite one right. By some shapes that is a or c, by others
b or d; on the way from the ones to the others it is a point.
"""

from hungwall.hanging import hung_in
from hungwall.insides import shut_plan
from hungwall.justso import just_so
from hungwall.leftplaces import place_on_left
from hungwall.reshaping import reshaped_in
from hungwall.straightways import straight_in
from hungwall.wayshapes import way_shapes


class PointAim:
    """The aim that a picture in the place of all inside a ring is a point."""

    def __init__(self, picture, ring):
        self.picture = picture
        self.ring = ring

    def gap(self, shapes, widths):
        """The width of the picture."""
        return widths[self.picture]

    def side(self, plan, shapes):
        """Whether the first or third place of the ring is on its left (-1), the second or fourth (1), or none (0)."""
        left = place_on_left(hung_in(plan, shapes)[1], self.picture, self.ring)
        if left is None:
            return 0
        if left in (self.ring[0], self.ring[2]):
            return -1
        return 1


def way_after(straight, picture, places):
    """The first of these ways on which a picture comes next after one of some places."""
    for place in places:
        for way in straight:
            if picture in way and way[way.index(picture) - 1] == place:
                return way
    return None


def shapes_at_point(plan, aim, before, beyond):
    """Shapes by which the aim is met, on the way from those before it to those beyond it, picture by picture."""
    shapes = before
    for picture, goal in enumerate(beyond):
        moved = reshaped_in(shapes, picture, goal)
        side = aim.side(plan, moved)
        if side == 0:
            return moved
        if side > 0:
            shape = just_so(plan, shapes, picture, (shapes[picture], goal), aim)
            return reshaped_in(shapes, picture, shape)
        shapes = moved
    return None


def shapes_of_point(plan, ring):
    """Shapes by which all pictures inside a ring of four pictures with two passages are points."""
    shut, kept = shut_plan(plan, ring)
    spot = len(kept)
    places = tuple([kept.index(place) for place in ring])
    straight = straight_in(shut, "level")
    ends = [way_after(straight, spot, (places[at], places[at + 2])) for at in (0, 1)]
    before, beyond = [way_shapes(len(shut), "level", way) for way in ends]
    shapes = shapes_at_point(shut, PointAim(spot, places), before, beyond)
    found = [(1, 1)] * len(plan)
    for picture, shape in zip(kept, shapes):
        found[picture] = shape
    return tuple(found)
