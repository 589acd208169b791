"""Plans and shapes read from lines.

A word that is not of its form is read as None.
"""

from hungwall.errors import InvalidText
from hungwall.kinds import is_positive
from hungwall.needs import need
from hungwall.places import LETTERS, MOST_PICTURES
from hungwall.planchecker import is_plan


def is_decimal(word):
    """Whether a word is a number in decimal without a leading zero."""
    if not word.isascii() or not word.isdigit():
        return False
    return word == "0" or word[0] != "0"


def decimal_worth(word):
    """The number of a decimal, figure by figure: int refuses more than 4300."""
    number = 0
    for figure in word:
        number = 10 * number + int(figure)
    return number


def read_picture(word):
    """The picture whose decimal a word is, or None."""
    if not is_decimal(word) or len(word) > 2 or int(word) >= MOST_PICTURES:
        return None
    return int(word)


def read_place(word):
    """The place whose letter a word is, or None."""
    if len(word) == 1 and word in LETTERS:
        return LETTERS.index(word) - 4
    return read_picture(word)


def read_circle(word, picture):
    """The circle of a picture that a word tells, or None."""
    circle = tuple([read_place(part) for part in word.split(",")])
    if len(circle) < 3 or None in circle or picture in circle:
        return None
    if len(set(circle)) < len(circle) or circle[0] != min(circle):
        return None
    return circle


def read_shape(word):
    """The positive quotient whose word this is, or None."""
    parts = word.split("/")
    if len(parts) > 2 or not all([is_decimal(part) for part in parts]):
        return None
    if len(parts) == 1:
        parts.append("1")
    elif parts[1] == "1":
        return None
    shape = (decimal_worth(parts[0]), decimal_worth(parts[1]))
    if not is_positive(shape):
        return None
    return shape


def read_words(words, head, parts):
    """Refuse the first word that is not of its form; parts is what the words behind head tell."""
    if words[0] != head:
        raise InvalidText(0, 0)
    for at, part in enumerate(parts):
        if part is None:
            raise InvalidText(0, at + 1)


def read_plan(text):
    """The plan that a line tells."""
    need(isinstance(text, str), "text")
    words = text.split(" ")
    circles = tuple([read_circle(word, k) for k, word in enumerate(words[1:])])
    read_words(words, "plan", circles)
    if not is_plan(circles):
        raise InvalidText(0, len(words))
    return circles


def read_shapes(text):
    """The shapes that a line tells."""
    need(isinstance(text, str), "text")
    words = text.split(" ")
    shapes = tuple([read_shape(word) for word in words[1:]])
    read_words(words, "shapes", shapes)
    if len(shapes) == 0:
        raise InvalidText(0, len(words))
    return shapes
