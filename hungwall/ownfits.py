"""The shape of one picture by which a wall has a told height."""

from hungwall.justso import just_so
from hungwall.kinds import is_positive
from hungwall.leastwidths import widths_in
from hungwall.needs import need
from hungwall.places import is_picture
from hungwall.quotients import difference_of_two, lies_below
from hungwall.reshaping import reshaped_in
from hungwall.tables import need_shapes, weight_in


class HeightAim:
    """The aim that a wall has a height, where it rises from the one end to the other."""

    def __init__(self, height):
        self.height = height

    def gap(self, shapes, widths):
        """How far the height by these widths is above the told one."""
        return difference_of_two(weight_in(shapes, widths), self.height)

    def side(self, plan, shapes):
        """Whether the wall is too low (-1), just so (0) or too high (1)."""
        top = self.gap(shapes, widths_in(plan, shapes))[0]
        if top == 0:
            return 0
        return top // abs(top)


def own_shape_in(plan, shapes, picture, height, ends):
    """The least shape of a picture from a low end to a high one by which the wall has a height, or None."""
    aim = HeightAim(height)
    sides = [aim.side(plan, reshaped_in(shapes, picture, end)) for end in ends]
    # By the shape of a point the height does not change: then both sides are alike.
    if sides[0] == 0:
        return ends[0]
    if sides[1] == 0:
        return ends[1]
    if sides[0] == sides[1]:
        return None
    return just_so(plan, shapes, picture, ends, aim)


def own_shape(plan, shapes, picture, height, low, high):
    """The least shape of a picture from low to high by which the wall has a height, or None."""
    need_shapes(plan, shapes)
    need(is_picture(len(plan), picture), "picture")
    need(is_positive(height), "height")
    need(is_positive(low), "low")
    need(is_positive(high) and not lies_below(high, low), "high")
    return own_shape_in(plan, shapes, picture, height, (low, high))
