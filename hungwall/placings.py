"""On which side of one another two pictures can hang."""

from hungwall.followings import first_by
from hungwall.growing import need_pictures
from hungwall.needs import need
from hungwall.straightways import straight_in

# For each word the kind of the straight ways that tell it, and whether the first picture comes ahead.
PLACINGS = {
    "above": ("upright", True), "below": ("upright", False), "left": ("level", True), "right": ("level", False),
}


def can_come(plan, word, one, other):
    """Whether by some shapes one hangs as a word tells of other, with a border."""
    kind, ahead = PLACINGS[word]
    pair = (one, other)
    if not ahead:
        pair = (other, one)
    return first_by(straight_in(plan, kind), pair[0], pair[1]) is not None


def placings_of(plan, one, other):
    """The set of the words that tell where one can hang of other."""
    need_pictures(plan, one, other)
    need(one != other, "other")
    return tuple([word for word in sorted(PLACINGS) if can_come(plan, word, one, other)])
