"""Level and upright ways, and which of them are straight."""

from hungwall.needs import need
from hungwall.places import is_picture_row
from hungwall.planchecker import is_plan
from hungwall.ties import tied_in

# The first and the last side of the ways of each kind.
ENDS = {"level": (-4, -2), "upright": (-3, -1)}


def is_kind(thing):
    """Whether any value is one of the two kinds."""
    return isinstance(thing, str) and thing in ENDS


def need_kind(plan, kind):
    """Refuse the first of a plan and a kind that is not as stated."""
    need(is_plan(plan), "plan")
    need(is_kind(kind), "kind")


def sides_of(kind):
    """The pair of the first and the last side of the ways of a kind."""
    return ENDS[kind]


def other_kind(kind):
    """The other one of the two kinds."""
    if kind == "level":
        return "upright"
    return "level"


def goes_through(plan, kind, thing):
    """Whether any value is a way of this kind in what is known to be a plan."""
    if not is_picture_row(len(plan), thing):
        return False
    first, last = sides_of(kind)
    places = (first,) + thing + (last,)
    return all([tied_in(plan, places[at], place) for at, place in enumerate(places[1:])])


def goes_straight(plan, kind, thing):
    """Whether any value is a straight way of this kind in what is known to be a plan."""
    if not goes_through(plan, kind, thing):
        return False
    first, last = sides_of(kind)
    places = (first,) + thing + (last,)
    for at, place in enumerate(places):
        if any([tied_in(plan, place, other) for other in places[at + 2:]]):
            return False
    return True


def is_way(plan, kind, thing):
    """Whether any value is a way of this kind."""
    need_kind(plan, kind)
    return goes_through(plan, kind, thing)


def is_straight(plan, kind, thing):
    """Whether any value is a straight way of this kind."""
    need_kind(plan, kind)
    return goes_straight(plan, kind, thing)
