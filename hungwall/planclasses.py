"""A plan as an object."""

from hungwall.circles import row_in
from hungwall.faces import faces_in
from hungwall.needs import need
from hungwall.places import is_picture, is_place, is_place_among, is_side
from hungwall.planchecker import is_plan
from hungwall.plantexts import plan_text
from hungwall.ties import tied_in


class Plan:
    """A plan, its ties, rows and faces."""

    def __init__(self, circles):
        need(is_plan(circles), "circles")
        self.circles = circles
        self.many = len(circles)

    def __eq__(self, other):
        return isinstance(other, Plan) and self.circles == other.circles

    def __len__(self):
        return len(self.circles)

    def __contains__(self, thing):
        if not isinstance(thing, tuple) or len(thing) != 2:
            return False
        one, other = thing
        if not is_place_among(self.many, one) or not is_place_among(self.many, other):
            return False
        return tied_in(self.circles, one, other)

    def tied(self, one, other):
        """Whether two places are tied."""
        need(is_place(self.many, one), "one")
        need(is_place(self.many, other), "other")
        return tied_in(self.circles, one, other)

    def circle(self, picture):
        """The circle of a picture."""
        need(is_picture(self.many, picture), "picture")
        return self.circles[picture]

    def row(self, side):
        """The row of a side."""
        need(is_side(side), "side")
        return row_in(self.circles, side)

    def faces(self):
        """The set of all faces."""
        return faces_in(self.circles)

    def as_line(self):
        """The line of the plan."""
        return plan_text(self.circles)
