"""A filling as an object."""

from hungwall.borders import borders_in
from hungwall.crossings import crossings_in
from hungwall.needs import need
from hungwall.painting import painted
from hungwall.readbacks import plan_in
from hungwall.slices import level_in, upright_in
from hungwall.walls import is_filling, shapes_by
from hungwall.waykinds import is_kind


class Filled:
    """A filling, its slices, borders and crossings, and what is read from it."""

    def __init__(self, filling):
        need(is_filling(filling), "filling")
        self.filling = filling
        self.tall = filling[0]
        self.many = len(filling[1])

    def slices(self, kind):
        """The tuple of all slices of this kind."""
        need(is_kind(kind), "kind")
        if kind == "level":
            return level_in(self.filling[1])
        return upright_in(self.filling[1])

    def borders(self):
        """The set of the borders."""
        return borders_in(self.filling)

    def crossings(self):
        """The set of the crossings."""
        return crossings_in(self.filling)

    def plan_by(self, slant):
        """The plan read from the filling by a slant."""
        return plan_in(self.filling, slant)

    def shapes_told(self):
        """The shapes of the boxes."""
        return shapes_by(self.filling[1])

    def paint(self, rows, columns):
        """The rows of letters of the filling, from above."""
        return painted(self.filling, rows, columns)
