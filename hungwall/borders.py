"""Borders of the boxes of walls, with one another and with the sides."""

from hungwall.boxes import edges_of, meets_side, sized_in
from hungwall.needs import need
from hungwall.places import E, N, S, SIDES, W
from hungwall.quotients import difference_of_two
from hungwall.sums import greatest_of, least_of
from hungwall.walls import is_hanging


def side_border(picture, box, side):
    """The border of the picture of a box with a side."""
    if side == W:
        return (W, picture, "left", box[3])
    if side == N:
        return (N, picture, "above", box[2])
    if side == E:
        return (picture, E, "left", box[3])
    return (picture, S, "above", box[2])


def side_borders(wall):
    """The list of all borders with sides."""
    tall, boxes = wall
    found = []
    for picture in sized_in(boxes):
        edges = edges_of(boxes[picture])
        met = [side for side in SIDES if meets_side(edges, tall, side)]
        found.extend([side_border(picture, boxes[picture], side) for side in met])
    return found


def shared_part(one, other):
    """How long two spans run together, not above 0 if they do not."""
    return difference_of_two(least_of((one[1], other[1])), greatest_of((one[0], other[0])))


def border_from(one, other):
    """The pair (how, length) of the border of edges with others to the right of, or below, them; or None."""
    how, length = None, (0, 1)
    if one[1] == other[0]:
        how, length = "left", shared_part(one[2:], other[2:])
    elif one[2] == other[3]:
        how, length = "above", shared_part(one[:2], other[:2])
    if length[0] <= 0:
        return None
    return (how, length)


def picture_borders(boxes):
    """The list of all borders of two pictures."""
    sized = sized_in(boxes)
    edges = {picture: edges_of(boxes[picture]) for picture in sized}
    found = []
    for one in sized:
        for other in sized:
            border = border_from(edges[one], edges[other])
            if border is not None:
                found.append((one, other) + border)
    return found


def borders_in(wall):
    """The set of the borders of what is known to be a wall."""
    return tuple(sorted(side_borders(wall) + picture_borders(wall[1])))


def borders_of(wall):
    """The set of the borders of a wall."""
    need(is_hanging(wall), "wall")
    return borders_in(wall)
