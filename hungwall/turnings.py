"""Plans mirrored, turned and renumbered."""

from hungwall.circles import renamed
from hungwall.kinds import is_integer
from hungwall.needs import need
from hungwall.places import E, N, S, SIDES, W, side_after
from hungwall.planchecker import is_plan


def reversed_plan(plan, names):
    """The plan with new names for sides, each circle in reverse."""
    return tuple([renamed(circle[::-1], names) for circle in plan])


def mirrored(plan):
    """The plan with W and E exchanged."""
    need(is_plan(plan), "plan")
    return reversed_plan(plan, {W: E, E: W})


def flipped(plan):
    """The plan with N and S exchanged."""
    need(is_plan(plan), "plan")
    return reversed_plan(plan, {N: S, S: N})


def turned(plan):
    """The plan with the side after each side in its place."""
    need(is_plan(plan), "plan")
    names = {side: side_after(side) for side in SIDES}
    return tuple([renamed(circle, names) for circle in plan])


def is_order(many, thing):
    """Whether any value is a tuple of all of so many pictures, each once."""
    if not isinstance(thing, tuple) or not all([is_integer(part) for part in thing]):
        return False
    return sorted(thing) == list(range(many))


def in_order(plan, order):
    """The plan in which the new picture k is the old picture order[k]."""
    names = {picture: k for k, picture in enumerate(order)}
    return tuple([renamed(plan[picture], names) for picture in order])


def renumbered(plan, order):
    """The plan with its pictures numbered anew."""
    need(is_plan(plan), "plan")
    need(is_order(len(plan), order), "order")
    return in_order(plan, order)
