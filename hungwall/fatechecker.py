"""The checker of fate papers."""

from hungwall.errors import InvalidPaper
from hungwall.needs import need
from hungwall.passages import is_picture_ring, passage_by, rings_about, ways_by_passage
from hungwall.places import is_picture
from hungwall.planchecker import is_plan
from hungwall.rings import inside_any, inside_in, is_ring_of_three, threes_in
from hungwall.straightways import straight_in
from hungwall.waykinds import goes_straight

# How many values a paper of each word has.
LENGTHS = {"always": 2, "never": 2, "both": 4}


def has_fate_form(thing):
    """Whether any value is a tuple that begins with a fate and is as long as its papers are."""
    if not isinstance(thing, tuple) or len(thing) == 0 or not isinstance(thing[0], str):
        return False
    return thing[0] in LENGTHS and LENGTHS[thing[0]] == len(thing)


def check_always(plan, picture, ring):
    """Refuse what is no ring of three that has a picture inside."""
    if not is_ring_of_three(plan, ring) or picture not in inside_in(plan, ring):
        raise InvalidPaper("ring", -1)


def check_never(plan, picture, way):
    """Refuse what is no straight level way that has a picture, and rings that have two passages."""
    if not goes_straight(plan, "level", way) or picture not in way:
        raise InvalidPaper("way", -1)
    straight = straight_in(plan, "level")
    for ring in rings_about(plan, picture):
        if len(ways_by_passage(straight, inside_in(plan, ring))) > 1:
            raise InvalidPaper("passages", ring)


def check_both(plan, picture, ring, ways):
    """Refuse what is no ring around a picture that is inside no ring of three, and ways of one passage."""
    if not is_picture_ring(plan, ring) or picture not in inside_in(plan, ring):
        raise InvalidPaper("ring", -1)
    if picture in inside_any(plan, threes_in(plan)):
        raise InvalidPaper("ring", -1)
    inside = inside_in(plan, ring)
    for at, way in enumerate(ways):
        if not goes_straight(plan, "level", way) or passage_by(way, inside) is None:
            raise InvalidPaper("way", at + 2)
    if passage_by(ways[0], inside) == passage_by(ways[1], inside):
        raise InvalidPaper("alike", -1)


def lets_fate(plan, picture, thing):
    """The fate that a fate paper of a picture tells."""
    need(is_plan(plan), "plan")
    need(is_picture(len(plan), picture), "picture")
    if not has_fate_form(thing):
        raise InvalidPaper("form", -1)
    if thing[0] == "always":
        check_always(plan, picture, thing[1])
    elif thing[0] == "never":
        check_never(plan, picture, thing[1])
    else:
        check_both(plan, picture, thing[1], thing[2:])
    return thing[0]
