"""The rings of a plan as an object."""

from hungwall.needs import need
from hungwall.places import is_picture
from hungwall.planchecker import is_plan
from hungwall.rings import fours_in, inside_any, inside_in, is_ring_of_four, is_ring_of_three, threes_in


class Rings:
    """All rings of a plan, and what is inside them."""

    def __init__(self, plan):
        need(is_plan(plan), "plan")
        self.circles = plan
        self.threes = threes_in(plan)
        self.fours = fours_in(plan)
        self.always = inside_any(plan, self.threes)

    def inside(self, ring):
        """The lot of the pictures inside a ring of three or of four."""
        need(is_ring_of_three(self.circles, ring) or is_ring_of_four(self.circles, ring), "ring")
        return inside_in(self.circles, ring)

    def around(self, picture):
        """The set of the rings of four that have the picture inside."""
        need(is_picture(len(self.circles), picture), "picture")
        return tuple([ring for ring in self.fours if picture in inside_in(self.circles, ring)])
