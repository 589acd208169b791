"""A desk at which a living wall answers lines."""

from hungwall.errors import InvalidEvent, InvalidText, NothingToUndo
from hungwall.eventreadings import event_at
from hungwall.eventtexts import event_text
from hungwall.live import LiveHung
from hungwall.liveevents import EVENTS
from hungwall.needs import need
from hungwall.places import decimal
from hungwall.planreadings import is_decimal, read_picture
from hungwall.plantexts import plan_text, shape_word, shapes_line


def read_steps(word):
    """The number of steps that a word tells, or None."""
    if not is_decimal(word) or len(word) > 2:
        return None
    return int(word)


def only_number(words, number):
    """The number that the second of two words has told; what is not so is refused."""
    if number is None:
        raise InvalidText(0, 1)
    if len(words) > 2:
        raise InvalidText(0, 2)
    return number


def undo_answer(live, words):
    """The answer to undo, with or without a number of steps."""
    steps = 1
    if len(words) > 1:
        steps = only_number(words, read_steps(words[1]))
    return ["undone", decimal(live.undo(steps))]


def box_answer(live, words):
    """The answer to box and a picture."""
    picture = None
    if len(words) > 1:
        picture = read_picture(words[1])
    picture = only_number(words, picture)
    if picture >= len(live.plan_now()):
        return ["no", "picture"]
    return ["box"] + [shape_word(part) for part in live.hung_now()[1][picture]]


def log_answer(live):
    """The lines of the log, joined by newlines."""
    circles, told, events = live.log()
    return "\n".join([plan_text(circles), shapes_line(told)] + [event_text(event) for event in events])


def told_answer(live, word):
    """The answer to a line of one word that asks for what is present; None for any other word."""
    if word == "height":
        return [word, shape_word(live.height_now())]
    if word == "points":
        return [word] + [decimal(picture) for picture in live.points_now()]
    if word == "fates":
        return [word] + list(live.fates_now())
    if word == "tally":
        return [word] + [decimal(count) for count in live.tally()]
    if word == "plan":
        return [plan_text(live.plan_now())]
    if word == "shapes":
        return [shapes_line(live.shapes_now())]
    if word == "log":
        return [log_answer(live)]
    return None


def answer_to(live, words):
    """The words of the answer to a line."""
    if words[0] in EVENTS:
        return ["done", decimal(live.go(event_at(words, 0)))]
    if words[0] == "tried":
        return ["height", shape_word(live.tried(event_at(words, 1)))]
    if words[0] == "undo":
        return undo_answer(live, words)
    if words[0] == "box":
        return box_answer(live, words)
    answer = told_answer(live, words[0])
    if answer is None:
        raise InvalidText(0, 0)
    if len(words) > 1:
        raise InvalidText(0, 1)
    return answer


def at_desk(live, text):
    """The answer of a living wall to a line."""
    need(isinstance(live, LiveHung), "live")
    need(isinstance(text, str), "text")
    try:
        return " ".join(answer_to(live, text.split(" ")))
    except InvalidText as error:
        return "what " + decimal(error.field)
    except InvalidEvent as error:
        return "no " + error.reason
    except NothingToUndo:
        return "no undo"
