"""Ways read from lines."""

from hungwall.errors import InvalidText
from hungwall.needs import need
from hungwall.planreadings import read_picture
from hungwall.waykinds import is_kind


def read_way(text):
    """The pair of the kind and the way that a line tells."""
    need(isinstance(text, str), "text")
    words = text.split(" ")
    if not is_kind(words[0]):
        raise InvalidText(0, 0)
    way = []
    for at, word in enumerate(words[1:]):
        picture = read_picture(word)
        if picture is None or picture in way:
            raise InvalidText(0, at + 1)
        way.append(picture)
    if len(way) == 0:
        raise InvalidText(0, 1)
    return (words[0], tuple(way))
