"""Ways written as lines."""

from hungwall.needs import need
from hungwall.places import MOST_PICTURES, is_picture_row
from hungwall.waykinds import is_kind


def way_line(kind, way):
    """The line of a kind and a way of any plan."""
    need(is_kind(kind), "kind")
    need(is_picture_row(MOST_PICTURES, way), "way")
    return " ".join([kind] + [str(picture) for picture in way])
