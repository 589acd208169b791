"""Pictures parted in two, and two joined into one."""

from hungwall.circles import from_least, from_place, renamed, replaced
from hungwall.needs import need
from hungwall.places import is_picture, is_place
from hungwall.planchecker import is_plan
from hungwall.ties import tied_places


def parting_fault(plan, picture, first, last):
    """The word of the first parameter of a parting that is not as stated; None if all are."""
    if not is_picture(len(plan), picture):
        return "picture"
    if not is_place(len(plan), first) or first not in plan[picture]:
        return "first"
    if not is_place(len(plan), last) or last not in plan[picture] or last == first:
        return "last"
    return None


def parted_in(plan, picture, first, last):
    """The plan with a picture parted; all is known to be as stated."""
    new = len(plan)
    circle = from_place(plan[picture], first)
    at = circle.index(last)
    circles = list(plan)
    for place in circle[1:at]:
        if place >= 0:
            circles[place] = replaced(plan[place], picture, (new,))
    if first >= 0:
        circles[first] = replaced(plan[first], picture, (new, picture))
    if last >= 0:
        circles[last] = replaced(plan[last], picture, (picture, new))
    circles[picture] = circle[at:] + (first, new)
    circles.append(circle[:at + 1] + (picture,))
    return tuple([from_least(places) for places in circles])


def joins(plan, one, other):
    """Whether two pictures of what is known to be a plan can be joined."""
    if other not in plan[one]:
        return False
    tied = tied_places(plan)
    return len([place for place in tied[one] if place in tied[other]]) == 2


def joined_in(plan, one, other):
    """The plan with two pictures made one; they are known to fit."""
    lesser, greater = min(one, other), max(one, other)
    new_part = [place for place in from_place(plan[other], one)[1:] if place not in plan[one]]
    names = {place: place - 1 for place in range(greater + 1, len(plan))}
    names[greater] = lesser
    circles = list(plan)
    circles[lesser] = replaced(plan[one], other, new_part)
    del circles[greater]
    return tuple([renamed(circle, names) for circle in circles])


def need_parting(plan, picture, first, last):
    """Refuse the first parameter of a parting that is not as stated."""
    need(is_plan(plan), "plan")
    word = parting_fault(plan, picture, first, last)
    need(word is None, word)


def need_pictures(plan, one, other):
    """Refuse the first of a plan and two of its pictures that is not as stated."""
    need(is_plan(plan), "plan")
    need(is_picture(len(plan), one), "one")
    need(is_picture(len(plan), other), "other")


def parted(plan, picture, first, last):
    """The plan in which a new picture takes over the neighbours from first to last."""
    need_parting(plan, picture, first, last)
    return parted_in(plan, picture, first, last)


def can_join(plan, one, other):
    """Whether two pictures can be made one."""
    need_pictures(plan, one, other)
    return joins(plan, one, other)


def joined(plan, one, other):
    """The plan in which two pictures are one."""
    need_pictures(plan, one, other)
    need(joins(plan, one, other), "other")
    return joined_in(plan, one, other)
