"""Plans that differ in their numbers alone."""

from hungwall.circles import from_place, row_in
from hungwall.needs import need
from hungwall.places import W
from hungwall.planchecker import is_plan
from hungwall.turnings import in_order


def found_order(plan):
    """The order in which the pictures of what is known to be a plan are found."""
    found_by = {picture: W for picture in row_in(plan, W)}
    order = list(found_by)
    at = 0
    while at < len(order):
        picture = order[at]
        at += 1
        # The place by which it was found comes first here; it is no new one.
        circle = from_place(plan[picture], found_by[picture])
        for place in circle:
            if place >= 0 and place not in found_by:
                found_by[place] = picture
                order.append(place)
    return tuple(order)


def settled_order(plan):
    """The tuple of all pictures in the order in which they are found."""
    need(is_plan(plan), "plan")
    return found_order(plan)


def settled(plan):
    """The plan with its pictures numbered as they are found."""
    need(is_plan(plan), "plan")
    return in_order(plan, found_order(plan))


def are_alike(one, other):
    """Whether some renumbering of the plan one is the plan other."""
    need(is_plan(one), "one")
    need(is_plan(other), "other")
    return in_order(one, found_order(one)) == in_order(other, found_order(other))
