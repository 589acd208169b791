"""Walls put together: one above the other, or side by side."""

from hungwall.boxes import NOUGHT, UNIT, moved_boxes
from hungwall.needs import need
from hungwall.quotients import product_of_two, ratio_of_two, sum_of_two
from hungwall.walls import is_hanging


def need_two_hanging(one, other):
    """Refuse the first of one and other that is no wall."""
    need(is_hanging(one), "one")
    need(is_hanging(other), "other")


def piled(one, other):
    """The wall with one above other."""
    need_two_hanging(one, other)
    above = moved_boxes(one[1], UNIT, NOUGHT, other[0])
    return (sum_of_two(one[0], other[0]), tuple(above) + other[1])


def put_beside(one, other):
    """The wall with one on the left of other, both made as high as each other."""
    need_two_hanging(one, other)
    both = sum_of_two(one[0], other[0])
    left_share, right_share = ratio_of_two(other[0], both), ratio_of_two(one[0], both)
    lefts = moved_boxes(one[1], left_share, NOUGHT, NOUGHT)
    rights = moved_boxes(other[1], right_share, left_share, NOUGHT)
    return (product_of_two(one[0], left_share), tuple(lefts + rights))
