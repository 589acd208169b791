"""What is left of a picture in a wall."""

from hungwall.borders import border_from
from hungwall.boxes import edges_of, has_size
from hungwall.places import W


def has_on_left(boxes, picture, place):
    """Whether a picture with size has a border with a place, to which it is tied, on its left."""
    if place < 0:
        return place == W
    border = border_from(edges_of(boxes[place]), edges_of(boxes[picture]))
    return border is not None and border[0] == "left"


def place_on_left(boxes, picture, places):
    """The one of the places tied to a picture that has a border with it on its left; None if it is a point."""
    if not has_size(boxes[picture]):
        return None
    return [place for place in places if has_on_left(boxes, picture, place)][0]
