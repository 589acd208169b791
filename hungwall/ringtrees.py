"""Rings of four shut one after the other, the least first."""

from hungwall.hanging import hung_in
from hungwall.insides import shut_plan
from hungwall.needs import need
from hungwall.planchecker import is_plan
from hungwall.rings import fours_in, inside_in
from hungwall.tables import need_shapes


def next_step(plan):
    """The pair of the ring that is shut next and the lot inside it; None if no ring has two pictures inside."""
    steps = []
    for ring in fours_in(plan):
        inside = inside_in(plan, ring)
        if len(inside) > 1:
            steps.append((len(inside), ring, inside))
    if not steps:
        return None
    return min(steps)[1:]


def ring_tree(plan):
    """The tuple of the steps by which rings are shut, until none has two pictures inside."""
    need(is_plan(plan), "plan")
    steps = []
    left = plan
    step = next_step(left)
    while step is not None:
        steps.append(step)
        left, _ = shut_plan(left, step[0])
        step = next_step(left)
    return tuple(steps)


def hung_by_tree(plan, shapes):
    """The wall of a plan and of shapes."""
    need_shapes(plan, shapes)
    return hung_in(plan, shapes)
