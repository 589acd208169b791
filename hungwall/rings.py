"""Rings of three and of four places, and what is inside."""

from hungwall.circles import follows, spread
from hungwall.faces import faces_in
from hungwall.lots import others_than
from hungwall.needs import need
from hungwall.places import SIDES, is_place
from hungwall.planchecker import is_plan
from hungwall.ties import tied_in, tied_places


def are_places(many, thing, length):
    """Whether any value is a tuple of so many different places."""
    if not isinstance(thing, tuple) or len(thing) != length:
        return False
    return all([is_place(many, part) for part in thing]) and len(set(thing)) == length


def is_ring_of_three(plan, thing):
    """Whether any value is a triple of the places of a ring of three, in any sequence."""
    if not are_places(len(plan), thing, 3):
        return False
    a, b, c = thing
    tied = tied_in(plan, a, b) and tied_in(plan, b, c) and tied_in(plan, c, a)
    return tied and tuple(sorted(thing)) not in faces_in(plan)


def is_ring_of_four(plan, thing):
    """Whether any value is a ring of four, in either direction."""
    if not are_places(len(plan), thing, 4) or max(thing) < 0:
        return False
    for at, place in enumerate(thing):
        if not tied_in(plan, place, thing[at - 1]) or tied_in(plan, place, thing[at - 2]):
            return False
    return True


def inside_in(plan, ring):
    """The lot of the pictures inside what is known to be a ring."""
    off = [side for side in SIDES if side not in ring]
    free = others_than(plan, ring)
    starts = [picture for picture in free if any([side in plan[picture] for side in off])]
    reached = spread(plan, starts, free)
    return tuple([picture for picture in free if picture not in reached])


def goes_clockwise(plan, ring, inside):
    """Whether a ring of four with these pictures inside goes clockwise."""
    return any([follows(plan[picture], ring[0], ring[1]) for picture in inside])


def is_clockwise_ring(plan, thing):
    """Whether any value is a clockwise ring of four, begun at any of its places."""
    return is_ring_of_four(plan, thing) and goes_clockwise(plan, thing, inside_in(plan, thing))


def threes_in(plan):
    """The set of all rings of three of what is known to be a plan."""
    tied = tied_places(plan)
    faces = {face: True for face in faces_in(plan)}
    found = []
    for a in tied:
        for b in tied[a]:
            if b > a:
                triples = [(a, b, c) for c in tied[b] if c > b and c in tied[a]]
                found.extend([triple for triple in triples if triple not in faces])
    return tuple(sorted(found))


def squares_from(tied, a):
    """All rings of four whose least place is a, each in one of its directions."""
    found = []
    for c in tied:
        if c > a and c not in tied[a]:
            beside = [place for place in tied[a] if place > a and place in tied[c]]
            for b in beside:
                found.extend([(a, b, c, d) for d in beside if d > b and d not in tied[b]])
    return [ring for ring in found if max(ring) >= 0]


def fours_in(plan):
    """The set of all rings of four, clockwise, of what is known to be a plan."""
    tied = tied_places(plan)
    found = []
    for a in tied:
        for ring in squares_from(tied, a):
            if goes_clockwise(plan, ring, inside_in(plan, ring)):
                found.append(ring)
            else:
                found.append((a, ring[3], ring[2], ring[1]))
    return tuple(sorted(found))


def inside_any(plan, rings):
    """The lot of the pictures that are inside at least one of these rings."""
    found = {picture: True for ring in rings for picture in inside_in(plan, ring)}
    return tuple(sorted(found))


def rings_of_three(plan):
    """The set of all rings of three, each as an ascending triple."""
    need(is_plan(plan), "plan")
    return threes_in(plan)


def rings_of_four(plan):
    """The set of all rings of four, each clockwise, its least place first."""
    need(is_plan(plan), "plan")
    return fours_in(plan)


def inside_of(plan, ring):
    """The lot of the pictures inside a ring of three or of four."""
    need(is_plan(plan), "plan")
    need(is_ring_of_three(plan, ring) or is_ring_of_four(plan, ring), "ring")
    return inside_in(plan, ring)
