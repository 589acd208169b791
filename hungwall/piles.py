"""Walls put together: one above the other, or side by side."""

from hungwall.needs import need
from hungwall.quotients import product_of_two, ratio_of_two, sum_of_two
from hungwall.walls import is_hanging


def need_two_hanging(one, other):
    """Refuse the first of one and other that is no wall."""
    need(is_hanging(one), "one")
    need(is_hanging(other), "other")


def shrunk(boxes, factor, shift):
    """The list of the boxes with all quotients times a factor, and their lefts then raised."""
    found = []
    for box in boxes:
        left, floor, width, height = [product_of_two(part, factor) for part in box]
        found.append((sum_of_two(left, shift), floor, width, height))
    return found


def piled(one, other):
    """The wall with one above other."""
    need_two_hanging(one, other)
    below = other[0]
    boxes = [(left, sum_of_two(floor, below), width, height) for left, floor, width, height in one[1]]
    return (sum_of_two(one[0], below), tuple(boxes) + other[1])


def put_beside(one, other):
    """The wall with one on the left of other, both made as high as each other."""
    need_two_hanging(one, other)
    both = sum_of_two(one[0], other[0])
    left_share, right_share = ratio_of_two(other[0], both), ratio_of_two(one[0], both)
    boxes = shrunk(one[1], left_share, (0, 1)) + shrunk(other[1], right_share, left_share)
    return (product_of_two(one[0], left_share), tuple(boxes))
