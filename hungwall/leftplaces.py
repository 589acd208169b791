"""What is left of a picture in a wall."""

from hungwall.borders import border_from
from hungwall.boxes import edges_of, has_size, meets_side
from hungwall.places import W


def has_on_left(wall, picture, place):
    """Whether a picture with size has a border with a place on its left."""
    tall, boxes = wall
    edges = edges_of(boxes[picture])
    if place < 0:
        return place == W and meets_side(edges, tall, W)
    border = border_from(edges_of(boxes[place]), edges)
    return border is not None and border[0] == "left"


def place_on_left(wall, picture, places):
    """The first of some places that has a border with a picture on the picture's left; None if it is a point."""
    if not has_size(wall[1][picture]):
        return None
    return [place for place in places if has_on_left(wall, picture, place)][0]
