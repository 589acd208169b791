"""The stream of level ways with the greatest bar, by integers.

Its loads over the shapes are the widths of the wall, times one number. It is
found as the mixture of ways with the least sum of load times load over shape:
while some way is shorter than those in the mixture, by loads over shapes, it
is taken in, and ways whose share falls to nought are left out.
"""

from hungwall.lengths import least_way
from hungwall.straightways import made_straight


def eases_of(shapes):
    """The pair (eases, scale): an integer, and for each shape this integer over it, an integer too."""
    scale = 1
    for top, _ in shapes:
        scale = scale * top
    return ([bottom * (scale // top) for top, bottom in shapes], scale)


def reduced_row(row, pivot, before):
    """A row less its share of the pivot's, without the first column."""
    return [(pivot[0] * one - row[0] * other) // before for one, other in zip(row[1:], pivot[1:])]


def solved(rows, scale):
    """The solution of linear equations, times some positive integer.

    Each row ends with its right side. The rows are what is left of greater
    ones, of integers, after columns of which scale is the determinant: so all
    divisions come out even.
    """
    left = rows
    before = scale
    for k in range(len(rows)):
        pivot = left[k]
        left = [pivot[1:] if at == k else reduced_row(row, pivot, before) for at, row in enumerate(left)]
        before = pivot[0]
    return [row[0] for row in left]


def best_shares(ways, eases, scale):
    """The shares of the best mixture of these ways, perhaps below 0, times some positive integer."""
    rows = []
    for one in ways:
        shared = [sum([eases[picture] for picture in one if picture in other]) for other in ways]
        # The scale counts a picture more, on all ways: so no row is a sum of others.
        rows.append([ease + scale for ease in shared] + [scale])
    return solved(rows, scale)


def first_used_up(old, new):
    """The index of the share that first falls to nought between old and new ones."""
    found = 0
    for at, share in enumerate(new):
        if share * old[found] < new[found] * old[at]:
            found = at
    return found


def remixed(ways, shares, eases, scale):
    """The pair of the ways that stay in the mixture, and of their shares, all above 0."""
    old, new = shares, best_shares(ways, eases, scale)
    while min(new) <= 0:
        at = first_used_up(old, new)
        moved = [old[at] * after - new[at] * ahead for ahead, after in zip(old, new)]
        ways = [way for way, share in zip(ways, moved) if share > 0]
        old = [share for share in moved if share > 0]
        new = best_shares(ways, eases, scale)
    return (ways, new)


def loads_over_shapes(ways, shares, eases):
    """The list of each picture's load by the mixture, times its ease."""
    loads = [0] * len(eases)
    for way, share in zip(ways, shares):
        for picture in way:
            loads[picture] = loads[picture] + share
    return [load * ease for load, ease in zip(loads, eases)]


def mixed_lengths(ways, shares, eases):
    """The pair of the lengths by a mixture of ways, and of the length of the first one."""
    lengths = loads_over_shapes(ways, shares, eases)
    return (lengths, sum([lengths[picture] for picture in ways[0]]))


def best_mixture(plan, shapes):
    """The triple (ways, lengths, least): the ways of the best mixture, and what best_lengths tells."""
    eases, scale = eases_of(shapes)
    ways, shares, lengths = [], [], [0] * len(plan)
    length, way = least_way(plan, "level", lengths)
    least = 1
    while length < least:
        # A way that is not straight may be as short, where pictures have the length 0.
        ways, shares = remixed(ways + [made_straight(plan, "level", way)], shares + [0], eases, scale)
        lengths, least = mixed_lengths(ways, shares, eases)
        length, way = least_way(plan, "level", lengths)
    return (ways, lengths, least)


def best_lengths(plan, shapes):
    """The pair (lengths, least): integers that, over their least level way's length, are the widths."""
    _, lengths, least = best_mixture(plan, shapes)
    return (lengths, least)


def lengths_on(ways, shapes):
    """The pair (lengths, least) by the best mixture of these ways alone, which all come to be as long as least.

    So it is while by changed shapes the same ways make up the best mixture of
    all; before and after, shares may be below 0, and other ways shorter.
    """
    eases, scale = eases_of(shapes)
    return mixed_lengths(ways, best_shares(ways, eases, scale), eases)
