"""All ways of a kind, and the straight ones."""

from hungwall.needs import need
from hungwall.waykinds import goes_through, need_kind, sides_of


def last_tied(plan, way, place):
    """The last picture on a way that is tied to a place."""
    return [picture for picture in way if place in plan[picture]][-1]


def begun_ways(plan, first):
    """The ways of one picture tied to the first side, the greatest first."""
    return [(picture,) for picture in reversed(range(len(plan))) if first in plan[picture]]


def longer_ways(plan, way):
    """The way with each picture that may come next, the greatest first."""
    beside = sorted(plan[way[-1]], reverse=True)
    return [way + (place,) for place in beside if place >= 0 and place not in way]


def longer_straight(plan, first, way):
    """The ways of longer_ways in which only the last picture but one is tied to the last."""
    longer = []
    for more in longer_ways(plan, way):
        beside = plan[more[-1]]
        if first not in beside and not any([picture in beside for picture in way[:-1]]):
            longer.append(more)
    return longer


def straight_in(plan, kind):
    """The set of the straight ways of this kind of what is known to be a plan."""
    first, last = sides_of(kind)
    found = []
    stack = begun_ways(plan, first)
    while stack:
        way = stack.pop()
        # A way that goes on from a picture tied to the last side is not straight.
        if last in plan[way[-1]]:
            found.append(way)
        else:
            stack.extend(longer_straight(plan, first, way))
    return tuple(found)


def made_straight(plan, kind, way):
    """The straight way that leaves out what it can of what is known to be a way of this kind."""
    first, last = sides_of(kind)
    found = [last_tied(plan, way, first)]
    while last not in plan[found[-1]]:
        found.append(last_tied(plan, way, found[-1]))
    return tuple(found)


def straight_ways(plan, kind):
    """The set of the straight ways of this kind."""
    need_kind(plan, kind)
    return straight_in(plan, kind)


def all_ways(plan, kind):
    """A generator of all ways of this kind, ascending."""
    need_kind(plan, kind)
    first, last = sides_of(kind)
    stack = begun_ways(plan, first)
    while stack:
        way = stack.pop()
        if last in plan[way[-1]]:
            yield way
        stack.extend(longer_ways(plan, way))


def straightened(plan, kind, way):
    """The straight way that leaves out what it can of a way."""
    need_kind(plan, kind)
    need(goes_through(plan, kind, way), "way")
    return made_straight(plan, kind, way)
