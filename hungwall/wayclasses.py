"""The ways of a plan as an object."""

from hungwall.followings import first_by, first_through
from hungwall.kinds import is_table
from hungwall.lengths import shortest_in
from hungwall.lots import is_lot
from hungwall.needs import need
from hungwall.places import is_picture
from hungwall.straightways import straight_in
from hungwall.twoways import way_within
from hungwall.waykinds import goes_through, need_kind


class Ways:
    """The ways of one kind of a plan."""

    def __init__(self, plan, kind):
        need_kind(plan, kind)
        self.circles = plan
        self.kind = kind
        self.straight = straight_in(plan, kind)
        self.many = len(plan)

    def __len__(self):
        return len(self.straight)

    def __contains__(self, thing):
        return goes_through(self.circles, self.kind, thing)

    def through(self, picture):
        """Any straight way that has a picture, or None."""
        need(is_picture(self.many, picture), "picture")
        return first_through(self.straight, picture)

    def by(self, one, other):
        """Any straight way on which other comes next after one, or None."""
        need(is_picture(self.many, one), "one")
        need(is_picture(self.many, other), "other")
        return first_by(self.straight, one, other)

    def shortest(self, table):
        """The least length that a way has, and any way that has it."""
        need(is_table(self.many, table), "table")
        return shortest_in(self.circles, self.kind, table)

    def holds(self, lot):
        """Whether some way has all its pictures in a lot."""
        need(is_lot(self.many, lot), "lot")
        return len(way_within(self.circles, self.kind, lot)) > 0
