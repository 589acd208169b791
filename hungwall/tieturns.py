"""Ties turned, and pictures with three neighbours taken out."""

from hungwall.circles import follows, from_least, renamed, replaced
from hungwall.faces import third_places
from hungwall.needs import need
from hungwall.places import is_picture
from hungwall.planchecker import is_plan
from hungwall.ties import need_places, tied_in


def turns(plan, one, other):
    """Whether the tie of two places of what is known to be a plan can be turned."""
    if max(one, other) < 0 or not tied_in(plan, one, other):
        return False
    near, far = third_places(plan, one, other)
    # Two sides that are not tied are opposite ones.
    return max(near, far) >= 0 and not tied_in(plan, near, far)


def put_between(circle, one, other, place):
    """The circle with a place between two that stand side by side in it."""
    if follows(circle, one, other):
        return replaced(circle, one, (one, place))
    return replaced(circle, other, (other, place))


def turned_in(plan, one, other):
    """The plan with the tie of two places turned, which is known to fit."""
    near, far = third_places(plan, one, other)
    circles = list(plan)
    if one >= 0:
        circles[one] = replaced(plan[one], other, ())
    if other >= 0:
        circles[other] = replaced(plan[other], one, ())
    if near >= 0:
        circles[near] = put_between(plan[near], one, other, far)
    if far >= 0:
        circles[far] = put_between(plan[far], one, other, near)
    return tuple([from_least(circle) for circle in circles])


def can_turn(plan, one, other):
    """Whether the tie of two places can be turned."""
    need_places(plan, one, other)
    return turns(plan, one, other)


def turned_tie(plan, one, other):
    """The plan in which the third places of two tied ones are tied instead of these."""
    need_places(plan, one, other)
    need(turns(plan, one, other), "other")
    return turned_in(plan, one, other)


def taken_out(plan, picture):
    """The plan without a picture that has just three neighbours."""
    need(is_plan(plan), "plan")
    need(is_picture(len(plan), picture) and len(plan[picture]) == 3, "picture")
    names = {place: place - 1 for place in range(picture + 1, len(plan))}
    circles = []
    for k, circle in enumerate(plan):
        if k != picture:
            left = [place for place in circle if place != picture]
            circles.append(renamed(left, names))
    return tuple(circles)
