"""The heights that walls have by the ends of stretches."""

from hungwall.kinds import is_number
from hungwall.leastwidths import height_in
from hungwall.needs import need
from hungwall.planchecker import is_plan
from hungwall.stretches import high_ends, is_stretches, low_ends


def need_stretches(plan, stretches):
    """Refuse the first of a plan and its stretches that is not as stated."""
    need(is_plan(plan), "plan")
    need(is_stretches(len(plan), stretches), "stretches")


def raised_shapes(stretches, count):
    """The high ends of the first count pictures, and the low ends of the others."""
    return high_ends(stretches[:count]) + low_ends(stretches[count:])


def range_in(plan, stretches):
    """The pair of the heights by all low and by all high ends, all known to fit."""
    return (height_in(plan, low_ends(stretches)), height_in(plan, high_ends(stretches)))


def range_of(plan, stretches):
    """The pair of the height by all low ends and the height by all high ends."""
    need_stretches(plan, stretches)
    return range_in(plan, stretches)


def raised_height(plan, stretches, count):
    """The height by the high ends of the first count pictures and the low ends of the others."""
    need_stretches(plan, stretches)
    need(is_number(count) and count <= len(plan), "count")
    return height_in(plan, raised_shapes(stretches, count))
