"""Places: pictures, numbered from 0, and the four sides."""

from hungwall.kinds import is_integer, is_number
from hungwall.needs import need

W = -4
N = -3
E = -2
S = -1
SIDES = (-4, -3, -2, -1)
LETTERS = "WNES"
MOST_PICTURES = 40
CHUNK = 1000000000000000000
CHUNK_FIGURES = 18


def is_side(thing):
    """Whether any value is a side."""
    return is_integer(thing) and -4 <= thing <= -1


def is_picture(many, thing):
    """Whether any value is one of so many pictures."""
    return is_integer(thing) and 0 <= thing < many


def is_number_row(thing):
    """Whether any value is a nonempty tuple of different numbers."""
    if not isinstance(thing, tuple) or len(thing) == 0:
        return False
    return all([is_number(part) for part in thing]) and len(set(thing)) == len(thing)


def is_picture_row(many, thing):
    """Whether any value is a nonempty tuple of different ones of so many pictures."""
    return is_number_row(thing) and max(thing) < many


def side_after(side):
    """The side that comes after a side, clockwise."""
    need(is_side(side), "side")
    return (side + 5) % 4 - 4


def side_opposite(side):
    """The side opposite to a side."""
    need(is_side(side), "side")
    return (side + 6) % 4 - 4


def is_place_among(many, thing):
    """Whether any value is a side or one of so many pictures, many known to be a number."""
    return is_side(thing) or is_picture(many, thing)


def is_place(many, thing):
    """Whether any value is a side or one of so many pictures."""
    need(is_number(many), "many")
    return is_place_among(many, thing)


def decimal(number):
    """A number in decimal, in parts: str refuses more than 4300 figures."""
    parts = []
    while number >= CHUNK:
        number, rest = divmod(number, CHUNK)
        parts.append(str(rest).zfill(CHUNK_FIGURES))
    parts.append(str(number))
    return "".join(reversed(parts))


def place_letter(place):
    """The letter of a side, or a number in decimal."""
    need(is_side(place) or is_number(place), "place")
    if place < 0:
        return LETTERS[place + 4]
    return decimal(place)
