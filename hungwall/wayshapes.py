"""Shapes by which a level or upright line meets the pictures of a way."""


def way_shapes(many, kind, way):
    """The shapes of so many pictures that make a straight way of this kind what a line meets."""
    shape = (16 * many * len(way) * len(way), 1)
    if kind == "upright":
        shape = (1, shape[0])
    return tuple([shape if picture in way else (1, 1) for picture in range(many)])
