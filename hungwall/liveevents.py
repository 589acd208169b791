"""The events that can happen to a living wall, and logs of them."""

from hungwall.kinds import is_positive, is_shape_row, is_shapes
from hungwall.places import MOST_PICTURES, is_picture, is_place_among
from hungwall.planchecker import is_plan

# For each event's string the kinds of the values behind it.
EVENTS = {
    "shape": ("picture", "shape"),
    "part": ("picture", "place", "place", "shape"),
    "join": ("picture", "picture", "shape"),
    "turn": ("place", "place"),
    "out": ("picture",),
    "shut": ("ring", "shape"),
    "lay": ("picture", "place", "plan", "shapes"),
    "mirror": (),
    "quarter": (),
}
MOST_EVENTS = 40


def is_told_place(thing):
    """Whether any value is a side or a number below forty."""
    return is_place_among(MOST_PICTURES, thing)


def is_told_ring(thing):
    """Whether any value is a quadruple of sides and numbers below forty."""
    return isinstance(thing, tuple) and len(thing) == 4 and all([is_told_place(part) for part in thing])


def is_of_kind(kind, thing):
    """Whether any value of an event is of its kind."""
    if kind == "picture":
        return is_picture(MOST_PICTURES, thing)
    if kind == "place":
        return is_told_place(thing)
    if kind == "ring":
        return is_told_ring(thing)
    if kind == "shape":
        return is_positive(thing)
    if kind == "plan":
        return is_plan(thing)
    return is_shape_row(thing)


def is_event(thing):
    """Whether any value is an event."""
    if not isinstance(thing, tuple) or len(thing) == 0 or not isinstance(thing[0], str) or thing[0] not in EVENTS:
        return False
    kinds = EVENTS[thing[0]]
    if len(thing) != len(kinds) + 1 or not all([is_of_kind(kind, part) for kind, part in zip(kinds, thing[1:])]):
        return False
    return thing[0] != "lay" or len(thing[3]) == len(thing[4])


def is_log(thing):
    """Whether any value is a log: a plan, its shapes and a tuple of events, forty at most."""
    if not isinstance(thing, tuple) or len(thing) != 3:
        return False
    plan, shapes, events = thing
    if not is_plan(plan) or not is_shapes(len(plan), shapes):
        return False
    return isinstance(events, tuple) and len(events) <= MOST_EVENTS and all([is_event(event) for event in events])
