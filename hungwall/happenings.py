"""What events do to a plan and its shapes, and why they cannot.

Events are known to be events; where they are let happen, that they can.
"""

from hungwall.growing import joined_in, joins, parted_in, parting_fault
from hungwall.insides import laid_in, shut_plan
from hungwall.liveevents import EVENTS
from hungwall.quotients import ratio_of_two
from hungwall.reshaping import reshaped_in
from hungwall.rings import is_clockwise_ring
from hungwall.tieturns import taken_out, turned_in, turns
from hungwall.turnings import mirrored, turned


def without(shapes, picture):
    """The shapes without that of a picture."""
    return shapes[:picture] + shapes[picture + 1:]


def after_shape(plan, shapes, event):
    """A picture has got another shape."""
    return (plan, reshaped_in(shapes, event[1], event[2]))


def after_part(plan, shapes, event):
    """A picture has been parted."""
    return (parted_in(plan, event[1], event[2], event[3]), shapes + (event[4],))


def after_join(plan, shapes, event):
    """Two pictures have been joined."""
    lesser, greater = min(event[1:3]), max(event[1:3])
    return (joined_in(plan, event[1], event[2]), without(reshaped_in(shapes, lesser, event[3]), greater))


def after_turn(plan, shapes, event):
    """A tie has been turned."""
    return (turned_in(plan, event[1], event[2]), shapes)


def after_out(plan, shapes, event):
    """A picture has been taken out."""
    return (taken_out(plan, event[1]), without(shapes, event[1]))


def after_shut(plan, shapes, event):
    """A ring has been shut."""
    shut, kept = shut_plan(plan, event[1])
    return (shut, tuple([shapes[picture] for picture in kept]) + (event[2],))


def after_lay(plan, shapes, event):
    """A plan has been laid in."""
    return (laid_in(plan, event[1], event[2], event[3]), without(shapes, event[1]) + event[4])


def after_mirror(plan, shapes, _):
    """All has been mirrored."""
    return (mirrored(plan), shapes)


def after_quarter(plan, shapes, _):
    """All has been turned."""
    return (turned(plan), tuple([ratio_of_two((1, 1), shape) for shape in shapes]))


CHANGES = {
    "shape": after_shape, "part": after_part, "join": after_join, "turn": after_turn, "out": after_out,
    "shut": after_shut, "lay": after_lay, "mirror": after_mirror, "quarter": after_quarter,
}


def changed_by(state, event):
    """The pair of the plan and the shapes after an event that can happen to those of a state."""
    change = CHANGES[event[0]]
    return change(state[0], state[1], event)


def told_pictures(event):
    """The list of the values of an event that are its picture, its one or its other."""
    if event[0] == "turn":
        return list(event[1:])
    return [value for value, kind in zip(event[1:], EVENTS[event[0]]) if kind == "picture"]


def fits_places(plan, event):
    """Whether the places of an event fit, where its pictures are pictures of the plan."""
    word = event[0]
    if word == "part":
        return parting_fault(plan, event[1], event[2], event[3]) is None
    if word == "join":
        return joins(plan, event[1], event[2])
    if word == "turn":
        return turns(plan, event[1], event[2])
    if word == "out":
        return len(plan[event[1]]) == 3
    if word == "shut":
        return is_clockwise_ring(plan, event[1])
    return word != "lay" or (len(plan[event[1]]) == 4 and event[2] in plan[event[1]])
