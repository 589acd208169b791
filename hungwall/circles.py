"""Going round circles, and from picture to picture.

Nothing is checked here: circles and plans are as stated, or far enough so
for what is asked of them.
"""

from hungwall.places import side_after


def after_in(circle, place):
    """The place that comes after a place of the circle."""
    return circle[(circle.index(place) + 1) % len(circle)]


def ahead_in(circle, place):
    """The place just ahead of a place of the circle."""
    return circle[circle.index(place) - 1]


def follows(circle, place, other):
    """Whether place is in the circle and other comes after it."""
    return place in circle and after_in(circle, place) == other


def from_place(circle, place):
    """The circle, begun at one of its places."""
    start = circle.index(place)
    return tuple(circle[start:]) + tuple(circle[:start])


def from_least(circle):
    """The circle, begun at its least place."""
    return from_place(circle, min(circle))


def replaced(circle, place, others):
    """The circle with others, in their sequence, where place stood."""
    start = circle.index(place)
    return tuple(circle[:start]) + tuple(others) + tuple(circle[start + 1:])


def merged(circle):
    """The circle with equal places that follow one another counted once."""
    return tuple([place for at, place in enumerate(circle) if place != circle[at - 1]])


def renamed(circle, names):
    """The circle with the new names that a dict tells, merged, begun at its least place."""
    return from_least(merged([names.get(place, place) for place in circle]))


def numbers_of(kept):
    """The dict that gives the picture kept[k] the number k."""
    return {picture: number for number, picture in enumerate(kept)}


def row_in(plan, side):
    """The row of a side, from the first picture that can begin one; () if none can."""
    firsts = [i for i, circle in enumerate(plan) if follows(circle, side, side_after(side))]
    row = []
    if firsts:
        place = firsts[0]
        while place >= 0:
            row.append(place)
            place = ahead_in(plan[place], side)
    return tuple(row)


def spread(plan, starts, lot):
    """What ties within a lot reach from the starts, which are in it.

    The result is a dict, the nearer pictures first: each picture with the one
    from which it was reached, a start with None.
    """
    free = {picture: True for picture in lot}
    reached = {}
    queue = []
    for start in starts:
        reached[start] = None
        queue.append(start)
    at = 0
    while at < len(queue):
        picture = queue[at]
        at += 1
        for place in plan[picture]:
            if place in free and place not in reached:
                reached[place] = picture
                queue.append(place)
    return reached
