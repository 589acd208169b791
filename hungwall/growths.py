"""Plans grown from one picture by partings."""

from hungwall.circles import after_in, ahead_in
from hungwall.errors import InvalidPaper
from hungwall.growing import joined_in, joins, parted_in, parting_fault
from hungwall.needs import need
from hungwall.planchecker import is_plan

ONE_PICTURE = ((-4, -3, -2, -1),)


def partner_of_last(plan):
    """The least picture that can be joined with the last one."""
    last = len(plan) - 1
    return min([picture for picture in range(last) if joins(plan, picture, last)])


def growth_of(plan):
    """Any steps by which grown returns the plan."""
    need(is_plan(plan), "plan")
    steps = []
    left = plan
    while len(left) > 1:
        last = len(left) - 1
        picture = partner_of_last(left)
        # Parting sets the new picture's circle down from first to last, then the old one.
        steps.append((picture, after_in(left[last], picture), ahead_in(left[last], picture)))
        left = joined_in(left, picture, last)
    return tuple(reversed(steps))


def are_triples(thing):
    """Whether any value is a tuple of triples."""
    if not isinstance(thing, tuple):
        return False
    return all([isinstance(part, tuple) and len(part) == 3 for part in thing])


def grown(steps):
    """The plan that begins with one picture and is parted step by step."""
    if not are_triples(steps):
        raise InvalidPaper("steps", -1)
    plan = ONE_PICTURE
    for k, (picture, first, last) in enumerate(steps):
        if parting_fault(plan, picture, first, last) is not None:
            raise InvalidPaper("step", k)
        plan = parted_in(plan, picture, first, last)
    return plan
