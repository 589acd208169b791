"""Lots of pictures: whether they hang together, their parts and rims."""

from hungwall.circles import spread
from hungwall.needs import need
from hungwall.places import SIDES, is_picture
from hungwall.planchecker import is_plan


def is_lot(many, thing):
    """Whether any value is a lot of so many pictures."""
    if not isinstance(thing, tuple) or not all([is_picture(many, part) for part in thing]):
        return False
    return list(thing) == sorted(set(thing))


def need_lot(plan, lot):
    """Refuse the first of a plan and a lot of it that is not as stated."""
    need(is_plan(plan), "plan")
    need(is_lot(len(plan), lot), "lot")


def others_than(plan, lot):
    """The lot of the pictures that are not in a lot."""
    return tuple([picture for picture in range(len(plan)) if picture not in lot])


def parts_in(plan, lot):
    """The set of the parts of what is known to be a lot."""
    parts = []
    left = lot
    while left:
        part = sorted(spread(plan, left[:1], left))
        parts.append(tuple(part))
        left = tuple([picture for picture in left if picture not in part])
    return tuple(parts)


def rim_in(plan, lot):
    """The set of the places outside what is known to be a lot that are tied to a picture of it."""
    beside = {place: True for picture in lot for place in plan[picture]}
    places = SIDES + others_than(plan, lot)
    return tuple([place for place in places if place in beside])


def hangs_together(plan, lot):
    """Whether a lot hangs together."""
    need_lot(plan, lot)
    return len(parts_in(plan, lot)) == 1


def lot_parts(plan, lot):
    """The set of the parts of a lot."""
    need_lot(plan, lot)
    return parts_in(plan, lot)


def rim_of(plan, lot):
    """The set of the places outside a lot that are tied to a picture of it."""
    need_lot(plan, lot)
    return rim_in(plan, lot)
