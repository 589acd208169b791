"""Papers that show the fates of pictures."""

from hungwall.followings import first_through
from hungwall.needs import need
from hungwall.passages import rings_about, ways_by_passage
from hungwall.places import is_picture
from hungwall.planchecker import is_plan
from hungwall.rings import inside_in, threes_in
from hungwall.straightways import straight_in


def fate_shown(plan, picture):
    """A fate paper of a picture of what is known to be a plan."""
    for ring in threes_in(plan):
        if picture in inside_in(plan, ring):
            return ("always", ring)
    straight = straight_in(plan, "level")
    for ring in rings_about(plan, picture):
        ways = list(ways_by_passage(straight, inside_in(plan, ring)).values())
        if len(ways) > 1:
            return ("both", ring, ways[0], ways[1])
    return ("never", first_through(straight, picture))


def fate_paper(plan, picture):
    """Any fate paper of a picture."""
    need(is_plan(plan), "plan")
    need(is_picture(len(plan), picture), "picture")
    return fate_shown(plan, picture)
