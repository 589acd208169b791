"""Passages that straight level ways give rings of four pictures."""

from hungwall.needs import need
from hungwall.places import is_picture
from hungwall.planchecker import is_plan
from hungwall.rings import fours_in, inside_in, is_clockwise_ring
from hungwall.straightways import straight_in


def is_picture_ring(plan, thing):
    """Whether any value is a clockwise ring of four pictures, begun at any of them."""
    return is_clockwise_ring(plan, thing) and min(thing) >= 0


def picture_rings(plan):
    """The set of the rings of four pictures of what is known to be a plan."""
    return tuple([ring for ring in fours_in(plan) if ring[0] >= 0])


def rings_about(plan, picture):
    """The set of the rings of four pictures that have a picture inside, all known to fit."""
    return tuple([ring for ring in picture_rings(plan) if picture in inside_in(plan, ring)])


def passage_by(way, inside):
    """The passage that a straight level way gives the ring with these pictures inside, or None."""
    met = [at for at, picture in enumerate(way) if picture in inside]
    if not met:
        return None
    # What is inside a ring of pictures is tied to no side, and a straight way meets it once, from
    # one place of the ring to the opposite one: two others would be tied.
    return (way[met[0] - 1], way[met[-1] + 1])


def ways_by_passage(straight, inside):
    """The dict of the passages that these ways give a ring, each with the last way that gives it."""
    found = {passage_by(way, inside): way for way in straight}
    return {passage: way for passage, way in found.items() if passage is not None}


def passages_of(plan, ring):
    """The set of the passages that straight level ways give a ring."""
    need(is_plan(plan), "plan")
    need(is_picture_ring(plan, ring), "ring")
    return tuple(sorted(ways_by_passage(straight_in(plan, "level"), inside_in(plan, ring))))


def rings_around(plan, picture):
    """The set of the rings of four pictures that have a picture inside."""
    need(is_plan(plan), "plan")
    need(is_picture(len(plan), picture), "picture")
    return rings_about(plan, picture)
