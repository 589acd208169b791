"""The checker of one of two ways."""

from hungwall.errors import InvalidPaper
from hungwall.lots import need_lot
from hungwall.waykinds import goes_through, is_kind


def lets_two(plan, lot, thing):
    """The kind that a pair of a kind and a way tells, if the way shows it of the lot."""
    need_lot(plan, lot)
    if not isinstance(thing, tuple) or len(thing) != 2 or not is_kind(thing[0]):
        raise InvalidPaper("form", -1)
    kind, way = thing
    if not goes_through(plan, kind, way):
        raise InvalidPaper("way", -1)
    for picture in way:
        if (picture in lot) != (kind == "upright"):
            raise InvalidPaper("lot", picture)
    return kind
