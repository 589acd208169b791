"""Events read from lines.

A word that is not of its form is read as None.
"""

from hungwall.errors import InvalidText
from hungwall.liveevents import EVENTS, is_event
from hungwall.needs import need
from hungwall.planreadings import read_circle, read_picture, read_place, read_shape


def read_ring(word):
    """The four places that a word tells, or None."""
    ring = tuple([read_place(part) for part in word.split(",")])
    if len(ring) != 4 or None in ring:
        return None
    return ring


def read_head(word, head):
    """The word itself if it is the one that stands there, or None."""
    if word != head:
        return None
    return word


def read_value(kind, word):
    """The value of an event that a word tells, or None; a plan's word is its first one."""
    if kind == "picture":
        return read_picture(word)
    if kind == "place":
        return read_place(word)
    if kind == "ring":
        return read_ring(word)
    if kind == "shape":
        return read_shape(word)
    return read_head(word, kind)


def read_laying(words):
    """The pair of what each word behind the word lay tells, and of the values of the event."""
    read = [read_value(kind, word) for kind, word in zip(("picture", "place", "plan"), words)]
    tail = words[3:]
    cut = len(tail)
    if "shapes" in tail:
        cut = tail.index("shapes")
    circles = [read_circle(word, k) for k, word in enumerate(tail[:cut])]
    shapes = [read_shape(word) for word in tail[cut + 1:]]
    return (read + circles + tail[cut:cut + 1] + shapes, read[:2] + [tuple(circles), tuple(shapes)])


def event_at(words, start):
    """The event that the words of a line from an index on tell."""
    if start == len(words) or words[start] not in EVENTS:
        raise InvalidText(0, start)
    head, rest = words[start], words[start + 1:]
    if head == "lay":
        read, values = read_laying(rest)
    else:
        read = values = [read_value(kind, word) for kind, word in zip(EVENTS[head], rest)]
    for at in range(len(rest)):
        if at >= len(read) or read[at] is None:
            raise InvalidText(0, start + 1 + at)
    event = (head,) + tuple(values)
    if not is_event(event):
        raise InvalidText(0, len(words))
    return event


def read_event(text):
    """The event whose line a text is."""
    need(isinstance(text, str), "text")
    return event_at(text.split(" "), 0)
