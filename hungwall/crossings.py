"""Crossings of walls: points that are corners of four boxes."""

from hungwall.boxes import edges_of, sized_in
from hungwall.needs import need
from hungwall.walls import is_hanging


def corners_at(edges, across, upward):
    """The dict of the point of one corner of each picture, and the picture.

    across and upward are the indices of the corner's abscissa and height.
    """
    return {(part[across], part[upward]): picture for picture, part in edges.items()}


def crossings_in(wall):
    """The set of the crossings of what is known to be a wall."""
    edges = {picture: edges_of(wall[1][picture]) for picture in sized_in(wall[1])}
    # A picture above left of a point has there its right and its floor; and so on.
    above_left, above_right = corners_at(edges, 1, 2), corners_at(edges, 0, 2)
    below_right, below_left = corners_at(edges, 0, 3), corners_at(edges, 1, 3)
    found = []
    for point, picture in above_left.items():
        if point in above_right and point in below_right and point in below_left:
            found.append((picture, above_right[point], below_right[point], below_left[point]))
    return tuple(sorted(found))


def crossings_of(wall):
    """The set of the crossings of a wall."""
    need(is_hanging(wall), "wall")
    return crossings_in(wall)
