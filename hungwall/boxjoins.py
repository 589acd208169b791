"""Boxes of walls joined into one, and parted in two."""

from hungwall.borders import border_from
from hungwall.boxes import UNIT, edges_of, has_size
from hungwall.kinds import is_positive
from hungwall.needs import need
from hungwall.places import is_picture
from hungwall.quotients import difference_of_two, lies_below, product_of_two, sum_of_two
from hungwall.walls import is_hanging


def box_of_two(one, other):
    """The box that two boxes make up, one to the left of other or above it; or None."""
    # A point has no border.
    border = border_from(edges_of(one), edges_of(other))
    if border == ("left", one[3]) and one[3] == other[3]:
        return (one[0], one[1], sum_of_two(one[2], other[2]), one[3])
    if border == ("above", one[2]) and one[2] == other[2]:
        return (one[0], other[1], one[2], sum_of_two(one[3], other[3]))
    return None


def joint_box(boxes, one, other):
    """The box that the boxes of two pictures make up, or None."""
    found = box_of_two(boxes[one], boxes[other])
    if found is None:
        found = box_of_two(boxes[other], boxes[one])
    return found


def need_two_of(wall, one, other):
    """Refuse the first of a wall and two different pictures of it that is not as stated."""
    need(is_hanging(wall), "wall")
    need(is_picture(len(wall[1]), one), "one")
    need(is_picture(len(wall[1]), other) and other != one, "other")


def makes_box(wall, one, other):
    """The box that the boxes of two pictures make up, or None."""
    need_two_of(wall, one, other)
    return joint_box(wall[1], one, other)


def joined_boxes(wall, one, other):
    """The wall in which the boxes of two pictures are one."""
    need_two_of(wall, one, other)
    found = joint_box(wall[1], one, other)
    need(found is not None, "other")
    lesser, greater = min(one, other), max(one, other)
    boxes = list(wall[1])
    boxes[lesser] = found
    del boxes[greater]
    return (wall[0], tuple(boxes))


def is_share(thing):
    """Whether any value is a positive quotient below 1."""
    return is_positive(thing) and lies_below(thing, UNIT)


def parts_of_box(box, how, share):
    """The left and the right part of a box, or the upper and the lower one."""
    left, floor, width, height = box
    if how == "left":
        kept = product_of_two(width, share)
        rest = difference_of_two(width, kept)
        return ((left, floor, kept, height), (sum_of_two(left, kept), floor, rest, height))
    kept = product_of_two(height, share)
    rest = difference_of_two(height, kept)
    return ((left, sum_of_two(floor, rest), width, kept), (left, floor, width, rest))


def parted_boxes(wall, picture, how, share):
    """The wall in which the box of a picture is parted in two."""
    need(is_hanging(wall), "wall")
    need(is_picture(len(wall[1]), picture) and has_size(wall[1][picture]), "picture")
    need(how in ("left", "above"), "how")
    need(is_share(share), "share")
    old, new = parts_of_box(wall[1][picture], how, share)
    boxes = list(wall[1])
    boxes[picture] = old
    boxes.append(new)
    return (wall[0], tuple(boxes))
