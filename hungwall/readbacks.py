"""Plans read back from fillings."""

from hungwall.borders import borders_in
from hungwall.circles import from_least
from hungwall.crossings import crossings_in
from hungwall.needs import need
from hungwall.sketches import is_slant
from hungwall.sums import over_one_bottom
from hungwall.walls import is_filling


def ranks_of(row):
    """The dict of the indices of a row of quotients, and integers that are ordered as these are."""
    tops, _ = over_one_bottom(row)
    return {picture: top for picture, top in enumerate(tops)}


def in_order_of(ranks, places):
    """The places, pictures or one side alone, as a list, those of lesser ranks first."""
    return sorted(places, key=lambda place: ranks.get(place, 0))


def beside(borders, at, picture, how):
    """The list of the other places of the borders that have a picture at index 0 or 1, and this word."""
    return [part[1 - at] for part in borders if part[at] == picture and part[2] == how]


def across_from(crossings, picture, at, slant):
    """The list of the picture opposite at the crossing that has a picture at this index, if the slant ties the two."""
    # Above left and below right have the indices 0 and 2.
    if (at % 2 == 0) != (slant == "falling"):
        return []
    return [crossing[at - 2] for crossing in crossings if crossing[at] == picture]


def walk_of(picture, borders, crossings, ranks, slant):
    """The walk round a picture, clockwise, from its lower left corner."""
    lefts, floors = ranks
    walk = in_order_of(floors, beside(borders, 1, picture, "left"))
    walk.extend(across_from(crossings, picture, 2, slant))
    walk.extend(in_order_of(lefts, beside(borders, 1, picture, "above")))
    walk.extend(across_from(crossings, picture, 3, slant))
    walk.extend(in_order_of(floors, beside(borders, 0, picture, "left"))[::-1])
    walk.extend(across_from(crossings, picture, 0, slant))
    walk.extend(in_order_of(lefts, beside(borders, 0, picture, "above"))[::-1])
    walk.extend(across_from(crossings, picture, 1, slant))
    return walk


def plan_in(filling, slant):
    """The plan read from a filling by a slant."""
    need(is_filling(filling), "filling")
    need(is_slant(slant), "slant")
    boxes = filling[1]
    borders, crossings = borders_in(filling), crossings_in(filling)
    ranks = (ranks_of([box[0] for box in boxes]), ranks_of([box[1] for box in boxes]))
    walks = [walk_of(picture, borders, crossings, ranks, slant) for picture in range(len(boxes))]
    return tuple([tuple(from_least(walk)) for walk in walks])
