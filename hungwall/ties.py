"""Which places are tied, and the rows of the sides."""

from hungwall.circles import after_in, ahead_in, row_in
from hungwall.needs import need
from hungwall.places import SIDES, is_picture, is_place, is_side
from hungwall.planchecker import is_plan

SIDE_TIES = ((-4, -3), (-4, -1), (-3, -2), (-2, -1))


def tied_in(plan, one, other):
    """Whether two places of what is known to be a plan are tied."""
    if one >= 0:
        return other in plan[one]
    if other >= 0:
        return one in plan[other]
    # Of two sides that are tied one is even and the other odd.
    return (one - other) % 2 == 1


def tied_places(plan):
    """A dict with the tuple of all places that are tied to each place."""
    places = SIDES + tuple(range(len(plan)))
    return {one: tuple([other for other in places if tied_in(plan, one, other)]) for one in places}


def need_places(plan, one, other):
    """Refuse the first of a plan and two of its places that is not as stated."""
    need(is_plan(plan), "plan")
    need(is_place(len(plan), one), "one")
    need(is_place(len(plan), other), "other")


def need_place_in(plan, picture, place):
    """Refuse the first of a plan, a picture and a place of its circle."""
    need(is_plan(plan), "plan")
    need(is_picture(len(plan), picture), "picture")
    need(is_place(len(plan), place) and place in plan[picture], "place")


def are_tied(plan, one, other):
    """Whether two places are tied."""
    need_places(plan, one, other)
    return tied_in(plan, one, other)


def ties_of(plan):
    """The set of all pairs of tied places, the lesser one first."""
    need(is_plan(plan), "plan")
    pairs = list(SIDE_TIES)
    for i, circle in enumerate(plan):
        pairs.extend([(place, i) for place in circle if place < i])
    return tuple(sorted(pairs))


def place_after(plan, picture, place):
    """What comes after a place in the circle of a picture."""
    need_place_in(plan, picture, place)
    return after_in(plan[picture], place)


def place_ahead(plan, picture, place):
    """What is just ahead of a place in the circle of a picture."""
    need_place_in(plan, picture, place)
    return ahead_in(plan[picture], place)


def row_of(plan, side):
    """The row of a side, in its sequence."""
    need(is_plan(plan), "plan")
    need(is_side(side), "side")
    return row_in(plan, side)
