"""Rings of four taken out of plans, shut, and laid in again."""

from hungwall.circles import from_least, from_place, numbers_of, renamed, replaced, row_in
from hungwall.lots import others_than
from hungwall.needs import need
from hungwall.places import SIDES, is_picture, is_place
from hungwall.planchecker import is_plan
from hungwall.rings import inside_in, is_clockwise_ring


def need_ring(plan, ring):
    """Refuse the first of a plan and a clockwise ring of four that is not as stated."""
    need(is_plan(plan), "plan")
    need(is_clockwise_ring(plan, ring), "ring")


def inner_plan(plan, ring):
    """The pair (plan, inside): what is inside, the places of the ring as W, N, E and S."""
    need_ring(plan, ring)
    inside = inside_in(plan, ring)
    names = numbers_of(inside)
    for place, side in zip(ring, SIDES):
        names[place] = side
    return (tuple([renamed(plan[picture], names) for picture in inside]), inside)


def shut_plan(plan, ring):
    """The pair (plan, kept): one new picture, the last, in the place of all inside."""
    need_ring(plan, ring)
    inside = inside_in(plan, ring)
    kept = others_than(plan, inside)
    names = numbers_of(kept)
    for picture in inside:
        names[picture] = len(kept)
    circles = [renamed(plan[picture], names) for picture in kept]
    circles.append(renamed(ring, names))
    return (tuple(circles), kept)


def laid_in(outer, picture, first, inner):
    """The plan outer with the plan inner in the place of a picture of it."""
    need(is_plan(outer), "outer")
    need(is_picture(len(outer), picture) and len(outer[picture]) == 4, "picture")
    need(is_place(len(outer), first) and first in outer[picture], "first")
    need(is_plan(inner), "inner")
    others = others_than(outer, (picture,))
    names = numbers_of(others)
    # Until the rows stand there, the picture has a number that no other one gets.
    spot = len(others) + len(inner)
    names[picture] = spot
    inner_names = {k: len(others) + k for k in range(len(inner))}
    for side, place in zip(SIDES, from_place(outer[picture], first)):
        inner_names[side] = names.get(place, place)
    circles = [renamed(outer[k], names) for k in others]
    for side in SIDES:
        neighbour = inner_names[side]
        if neighbour >= 0:
            row = [inner_names[k] for k in row_in(inner, side)]
            circles[neighbour] = from_least(replaced(circles[neighbour], spot, row))
    circles.extend([renamed(circle, inner_names) for circle in inner])
    return tuple(circles)
