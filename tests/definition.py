"""The five conditions of a plan, tried one after the other just as the document says them."""

import itertools

from tests.helping import E, N, S, SIDES, W

AFTER = {W: N, N: E, E: S, S: W}


def is_int(thing):
    return type(thing) is int


def next_of(circle, place):
    """The place right behind a place of the circle, the first one behind the last."""
    doubled = circle + circle
    return doubled[doubled.index(place) + 1]


def circle_fault(many, i, circle):
    if type(circle) is not tuple or len(circle) < 3:
        return True
    if not all(is_int(place) and -4 <= place < many for place in circle):
        return True
    return len(set(circle)) != len(circle) or i in circle or circle[0] != min(circle)


def goes_on(plan, i, j, k):
    """Condition 3 for i, j and the place k that comes after j in the circle of i."""
    if j in SIDES and k in SIDES and AFTER[j] != k:
        return False
    if j not in SIDES and (k not in plan[j] or next_of(plan[j], k) != i):
        return False
    return k in SIDES or (i in plan[k] and next_of(plan[k], i) == j)


def makes_row(plan, s):
    """Condition 4, by trying each sequence that begins with some picture."""
    beside = [i for i, circle in enumerate(plan) if s in circle]
    for first in beside:
        row = [first]
        while True:
            ahead = plan[row[-1]][plan[row[-1]].index(s) - 1]
            if ahead not in beside or ahead in row:
                break
            row.append(ahead)
        begins = next_of(plan[first], s) == AFTER[s]
        ends = ahead in SIDES and AFTER[ahead] == s
        if begins and ends and len(row) == len(beside):
            return True
    return False


def joined_all(plan):
    """Whether chains of ties join all pictures, by merging their names."""
    names = list(range(len(plan)))
    for _ in plan:
        for i, circle in enumerate(plan):
            least = min([names[i]] + [names[j] for j in circle if j >= 0])
            names[i] = least
    return set(names) == {0}


def tied_sets(plan):
    """How many sets of two places, one of them a picture, are tied."""
    places = SIDES + tuple(range(len(plan)))
    pairs = itertools.combinations(places, 2)
    return sum(b >= 0 and (a in plan[b] or (a >= 0 and b in plan[a])) for a, b in pairs)


def first_fault(thing):
    """The word and place of the first entry of the list that applies, or None."""
    if type(thing) is not tuple or not thing:
        return "plan", -1
    for i, circle in enumerate(thing):
        if circle_fault(len(thing), i, circle):
            return "circle", i
    for i, circle in enumerate(thing):
        for j in circle:
            if j >= 0 and i not in thing[j]:
                return "tie", (i, j)
    for i, circle in enumerate(thing):
        for j in circle:
            if not goes_on(thing, i, j, next_of(circle, j)):
                return "face", (i, j)
    for s in (W, N, E, S):
        if not makes_row(thing, s):
            return "side", s
    if not joined_all(thing):
        return "parts", -1
    return None if tied_sets(thing) == 3 * len(thing) + 1 else ("count", -1)
