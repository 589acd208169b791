"""Walls mirrored, turned and stretched."""

from hungwall.boxes import UNIT, edges_of
from hungwall.kinds import is_positive
from hungwall.needs import need
from hungwall.quotients import difference_of_two, product_of_two, ratio_of_two
from hungwall.walls import is_hanging


def mirrored_boxes(wall):
    """The wall with left and right exchanged."""
    need(is_hanging(wall), "wall")
    tall, boxes = wall
    found = []
    for box in boxes:
        left = difference_of_two(UNIT, edges_of(box)[1])
        found.append((left, box[1], box[2], box[3]))
    return (tall, tuple(found))


def flipped_boxes(wall):
    """The wall with above and below exchanged."""
    need(is_hanging(wall), "wall")
    tall, boxes = wall
    found = []
    for box in boxes:
        floor = difference_of_two(tall, edges_of(box)[3])
        found.append((box[0], floor, box[2], box[3]))
    return (tall, tuple(found))


def turned_boxes(wall):
    """The wall with its left side above, made as wide as a frame."""
    need(is_hanging(wall), "wall")
    tall, boxes = wall
    found = []
    for box in boxes:
        floor = difference_of_two(UNIT, edges_of(box)[1])
        found.append(tuple([ratio_of_two(part, tall) for part in (box[1], floor, box[3], box[2])]))
    return (ratio_of_two(UNIT, tall), tuple(found))


def stretched(wall, factor):
    """The wall with all its heights times a factor."""
    need(is_hanging(wall), "wall")
    need(is_positive(factor), "factor")
    tall, boxes = wall
    found = []
    for left, floor, width, height in boxes:
        found.append((left, product_of_two(floor, factor), width, product_of_two(height, factor)))
    return (product_of_two(tall, factor), tuple(found))
