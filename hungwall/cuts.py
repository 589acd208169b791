"""Where a wall can be cut from side to side, and its two parts."""

from hungwall.boxes import edges_of, sized_in
from hungwall.kinds import is_quotient
from hungwall.needs import need
from hungwall.quotients import difference_of_two, lies_below
from hungwall.sums import ascending
from hungwall.walls import is_hanging


def free_between(spans):
    """The tuple, ascending, of the quotients above 0 that are within no span of a wall's boxes, and ahead of some."""
    found = []
    # A wall is covered: what is within no span, and not the end of all, begins some.
    for at in ascending([span[0] for span in spans]):
        inside = [low for low, high in spans if lies_below(low, at) and lies_below(at, high)]
        if at[0] > 0 and len(inside) == 0:
            found.append(at)
    return tuple(found)


def free_heights_in(wall):
    """The free heights of what is known to be a wall."""
    boxes = wall[1]
    return free_between([edges_of(boxes[picture])[2:] for picture in sized_in(boxes)])


def free_heights(wall):
    """The heights between floor and upper end of no box."""
    need(is_hanging(wall), "wall")
    return free_heights_in(wall)


def free_abscissas(wall):
    """The abscissas between left and right end of no box."""
    need(is_hanging(wall), "wall")
    boxes = wall[1]
    return free_between([edges_of(boxes[picture])[:2] for picture in sized_in(boxes)])


def cut_at(wall, height):
    """The quadruple of the lot above a free height, its wall, the lot below it, its wall; points left out."""
    need(is_hanging(wall), "wall")
    need(is_quotient(height) and height in free_heights_in(wall), "height")
    tall, boxes = wall
    sized = sized_in(boxes)
    above = tuple([picture for picture in sized if not lies_below(boxes[picture][1], height)])
    below = tuple([picture for picture in sized if lies_below(boxes[picture][1], height)])
    upper = []
    for picture in above:
        left, floor, width, high = boxes[picture]
        upper.append((left, difference_of_two(floor, height), width, high))
    lower = tuple([boxes[picture] for picture in below])
    return (above, (difference_of_two(tall, height), tuple(upper)), below, (height, lower))
