"""Plans and shapes written as lines."""

from hungwall.kinds import is_shape_row
from hungwall.needs import need
from hungwall.places import decimal, place_letter
from hungwall.planchecker import is_plan


def circle_word(circle):
    """The word of a circle."""
    return ",".join([place_letter(place) for place in circle])


def shape_word(shape):
    """The word of a positive quotient."""
    top, bottom = shape
    if bottom == 1:
        return decimal(top)
    return decimal(top) + "/" + decimal(bottom)


def plan_text(plan):
    """The line of what is known to be a plan."""
    return " ".join(["plan"] + [circle_word(circle) for circle in plan])


def plan_line(plan):
    """The line of a plan."""
    need(is_plan(plan), "plan")
    return plan_text(plan)


def shapes_line(shapes):
    """The line of shapes of one picture or more."""
    need(is_shape_row(shapes) and len(shapes) > 0, "shapes")
    return " ".join(["shapes"] + [shape_word(shape) for shape in shapes])
