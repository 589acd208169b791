"""Plans without what is inside rings of three."""

from hungwall.circles import numbers_of, renamed
from hungwall.lots import others_than
from hungwall.needs import need
from hungwall.planchecker import is_plan
from hungwall.rings import inside_any, threes_in


def emptied(plan):
    """The pair (plan, kept) without the pictures inside rings of three."""
    need(is_plan(plan), "plan")
    gone = inside_any(plan, threes_in(plan))
    kept = others_than(plan, gone)
    numbers = numbers_of(kept)
    circles = [[place for place in plan[picture] if place not in gone] for picture in kept]
    return (tuple([renamed(circle, numbers) for circle in circles]), kept)
