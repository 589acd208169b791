"""Whether a value is a plan."""

from hungwall.circles import after_in, follows, row_in, spread
from hungwall.errors import InvalidPaper
from hungwall.places import SIDES, is_place, side_after


def is_circle(many, i, thing):
    """Whether any value can be the circle of picture i."""
    if not isinstance(thing, tuple) or len(thing) < 3:
        return False
    if not all([is_place(many, place) for place in thing]):
        return False
    return i not in thing and len(set(thing)) == len(thing) and thing[0] == min(thing)


def is_face_of(plan, i, j, k):
    """Whether the third condition holds for picture i and the places j and k after it."""
    if j < 0 and k < 0:
        return k == side_after(j)
    if j >= 0 and not follows(plan[j], k, i):
        return False
    return k < 0 or follows(plan[k], i, j)


def check_ties(plan):
    """Refuse a picture that does not have those in its circle that have it."""
    for i, circle in enumerate(plan):
        for j in circle:
            if j >= 0 and i not in plan[j]:
                raise InvalidPaper("tie", (i, j))


def check_faces(plan):
    """Refuse circles that do not go on round one another."""
    for i, circle in enumerate(plan):
        for j in circle:
            if not is_face_of(plan, i, j, after_in(circle, j)):
                raise InvalidPaper("face", (i, j))


def check_sides(plan):
    """Refuse a side whose pictures do not make one row."""
    for side in SIDES:
        beside = [circle for circle in plan if side in circle]
        if not beside or len(row_in(plan, side)) != len(beside):
            raise InvalidPaper("side", side)


def count_of_ties(plan):
    """How many sets of two places, at least one of them a picture, are tied."""
    with_sides = sum([1 for circle in plan for place in circle if place < 0])
    with_pictures = sum([1 for circle in plan for place in circle if place >= 0])
    return with_sides + with_pictures // 2


def lets_plan(thing):
    """How many pictures a plan has; InvalidPaper for any other value."""
    if not isinstance(thing, tuple) or len(thing) == 0:
        raise InvalidPaper("plan", -1)
    many = len(thing)
    for i, circle in enumerate(thing):
        if not is_circle(many, i, circle):
            raise InvalidPaper("circle", i)
    check_ties(thing)
    check_faces(thing)
    check_sides(thing)
    if len(spread(thing, (0,), list(range(many)))) != many:
        raise InvalidPaper("parts", -1)
    if count_of_ties(thing) != 3 * many + 1:
        raise InvalidPaper("count", -1)
    return many


def is_plan(thing):
    """Whether any value is a plan."""
    try:
        lets_plan(thing)
    except InvalidPaper:
        return False
    return True
