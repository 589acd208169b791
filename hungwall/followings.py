"""Who comes next after whom on straight ways, and straight ways through told pictures."""

from hungwall.needs import need
from hungwall.places import is_picture
from hungwall.straightways import straight_in
from hungwall.waykinds import need_kind


def steps_of(way):
    """The list of the pairs of pictures that follow one another on a way."""
    return [(way[at], picture) for at, picture in enumerate(way[1:])]


def first_through(straight, picture):
    """The first of these ways that has a picture, or None."""
    for way in straight:
        if picture in way:
            return way
    return None


def first_by(straight, one, other):
    """The first of these ways on which other comes next after one, or None."""
    for way in straight:
        if (one, other) in steps_of(way):
            return way
    return None


def followings(plan, kind):
    """The set of the pairs of pictures of which the second follows the first on a straight way."""
    need_kind(plan, kind)
    pairs = {pair for way in straight_in(plan, kind) for pair in steps_of(way)}
    return tuple(sorted(pairs))


def way_through(plan, kind, picture):
    """Any straight way of this kind that has a picture, or None."""
    need_kind(plan, kind)
    need(is_picture(len(plan), picture), "picture")
    return first_through(straight_in(plan, kind), picture)


def way_by(plan, kind, one, other):
    """Any straight way of this kind on which other comes next after one, or None."""
    need_kind(plan, kind)
    need(is_picture(len(plan), one), "one")
    need(is_picture(len(plan), other), "other")
    return first_by(straight_in(plan, kind), one, other)
