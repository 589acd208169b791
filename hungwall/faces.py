"""The faces of a plan."""

from hungwall.circles import after_in
from hungwall.needs import need
from hungwall.planchecker import is_plan
from hungwall.ties import need_places, tied_in


def faces_in(plan):
    """The set of all faces of what is known to be a plan."""
    found = set()
    for i, circle in enumerate(plan):
        for j in circle:
            found.add(tuple(sorted([i, j, after_in(circle, j)])))
    return tuple(sorted(found))


def third_places(plan, one, other):
    """The set of the places that make a face with two places."""
    beside = [face for face in faces_in(plan) if one in face and other in face]
    return tuple(sorted([place for face in beside for place in face if place not in (one, other)]))


def faces_of(plan):
    """The set of all faces, each as an ascending triple."""
    need(is_plan(plan), "plan")
    return faces_in(plan)


def faces_at(plan, one, other):
    """The set of the places that make a face with two tied places."""
    need_places(plan, one, other)
    need(tied_in(plan, one, other), "other")
    return third_places(plan, one, other)
