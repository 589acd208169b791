"""A plan and its shapes, hung, as an object."""

from hungwall.boxes import common_point, edges_of, meets_side
from hungwall.hanging import hung_in
from hungwall.kinds import is_shapes
from hungwall.needs import need
from hungwall.places import is_picture, is_place
from hungwall.planchecker import is_plan
from hungwall.points import points_by
from hungwall.ties import tied_in
from hungwall.walls import is_hanging


class Hung:
    """The wall of a plan and of shapes."""

    def __init__(self, circles, told):
        need(is_plan(circles), "circles")
        need(is_shapes(len(circles), told), "told")
        self.circles = circles
        self.told = told
        self.hanging = hung_in(circles, told)
        self.tall = self.hanging[0]
        self.widths = tuple([box[2] for box in self.hanging[1]])
        self.points = points_by(self.widths)

    def __eq__(self, other):
        return isinstance(other, Hung) and self.circles == other.circles and self.told == other.told

    def box(self, picture):
        """The box of a picture."""
        need(is_picture(len(self.circles), picture), "picture")
        return self.hanging[1][picture]

    def meets(self, one, other):
        """Whether two places meet in the wall."""
        need(is_place(len(self.circles), one), "one")
        need(is_place(len(self.circles), other), "other")
        near, far = min(one, other), max(one, other)
        if far < 0:
            return near == far or tied_in(self.circles, near, far)
        edges = edges_of(self.hanging[1][far])
        if near < 0:
            return meets_side(edges, self.tall, near)
        return common_point(edges_of(self.hanging[1][near]), edges)

    def fits(self, thing):
        """Whether any value is this wall."""
        # In a wall there is no True, which would be equal to 1.
        return is_hanging(thing) and thing == self.hanging
