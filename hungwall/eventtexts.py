"""Events written as lines."""

from hungwall.liveevents import EVENTS, is_event
from hungwall.needs import need
from hungwall.places import place_letter
from hungwall.plantexts import circle_word, plan_text, shape_word, shapes_line


def value_text(kind, value):
    """The words of a value of an event."""
    if kind == "ring":
        return circle_word(value)
    if kind == "shape":
        return shape_word(value)
    if kind == "plan":
        return plan_text(value)
    if kind == "shapes":
        return shapes_line(value)
    return place_letter(value)


def event_text(event):
    """The line of what is known to be an event."""
    values = [value_text(kind, value) for kind, value in zip(EVENTS[event[0]], event[1:])]
    return " ".join([event[0]] + values)


def event_line(event):
    """The line of an event."""
    need(is_event(event), "event")
    return event_text(event)
