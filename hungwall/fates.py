"""The fates of pictures: whether they are points always, never, or by some shapes."""

from hungwall.needs import need
from hungwall.passages import picture_rings, ways_by_passage
from hungwall.places import is_picture
from hungwall.planchecker import is_plan
from hungwall.rings import inside_any, inside_in, threes_in
from hungwall.straightways import straight_in


def wavering_in(plan):
    """The lot of the pictures inside rings of four pictures that have two passages or more."""
    straight = straight_in(plan, "level")
    rings = [ring for ring in picture_rings(plan) if len(ways_by_passage(straight, inside_in(plan, ring))) > 1]
    return inside_any(plan, rings)


def fate_by(always, wavering, picture):
    """The fate of a picture, by the lots inside rings of three and inside rings with two passages."""
    if picture in always:
        return "always"
    if picture in wavering:
        return "both"
    return "never"


def fates_in(plan):
    """The tuple of the fates of the pictures of what is known to be a plan."""
    always, wavering = inside_any(plan, threes_in(plan)), wavering_in(plan)
    return tuple([fate_by(always, wavering, picture) for picture in range(len(plan))])


def fate_of(plan, picture):
    """The fate of a picture."""
    need(is_plan(plan), "plan")
    need(is_picture(len(plan), picture), "picture")
    return fates_in(plan)[picture]


def fates_of(plan):
    """The tuple of the fates of all pictures."""
    need(is_plan(plan), "plan")
    return fates_in(plan)
