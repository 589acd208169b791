"""Events for the tests, and what the document says that they do, by the functions that it names."""

from hungwall.errors import NotUsable
from hungwall.growing import joined, parted
from hungwall.insides import laid_in, shut_plan
from hungwall.quotients import over
from hungwall.tieturns import taken_out, turned_tie
from hungwall.turnings import mirrored, turned
from hungwall.rings import rings_of_four
from tests.helping import BARS, E, FIVE, FOUR, N, ONE, S, SIDES, TUCKED, TWO, W, grown_plan, quotient_of

# Which values of an event are its picture, its one or its other.
PICTURES = {"shape": (1,), "part": (1,), "join": (1, 2), "turn": (1, 2), "out": (1,), "lay": (1,)}
SHAPE = (2, 3)
EVENTS = (
    ("shape", 0, (2, 1)), ("shape", 39, (1, 10 ** 20 - 1)), ("part", 0, N, S, (1, 1)), ("part", 39, 0, 39, (7, 3)),
    ("part", 3, W, W, (1, 1)), ("join", 0, 1, (1, 1)), ("join", 39, 39, (5, 2)), ("turn", W, 2), ("turn", 0, 39),
    ("turn", N, S), ("turn", 4, 4), ("out", 0), ("out", 39), ("shut", (0, 1, 2, 3), (1, 1)), ("shut", (W, N, E, S), (1, 1)),
    ("shut", (39, 39, W, 0), (3, 7)), ("lay", 4, W, TWO, ((1, 1), (2, 3))), ("lay", 39, 39, ONE, ((1, 1),)),
    ("lay", 0, S, FIVE, ((1, 1),) * 5), ("mirror",), ("quarter",),
)


def told_change(plan, shapes, event):
    """The pair of the plan and shapes after an event; what the functions that the document names refuse, they refuse."""
    word = event[0]
    if word == "shape":
        return plan, shapes[:event[1]] + (event[2],) + shapes[event[1] + 1:]
    if word == "part":
        return parted(plan, *event[1:4]), shapes + (event[4],)
    if word == "join":
        new = joined(plan, *event[1:3])
        told = list(shapes)
        told[min(event[1:3])] = event[3]
        del told[max(event[1:3])]
        return new, tuple(told)
    if word == "turn":
        return turned_tie(plan, *event[1:]), shapes
    if word == "out":
        return taken_out(plan, event[1]), shapes[:event[1]] + shapes[event[1] + 1:]
    if word == "shut":
        new, kept = shut_plan(plan, event[1])
        return new, tuple(shapes[k] for k in kept) + (event[2],)
    if word == "lay":
        others = tuple(shape for k, shape in enumerate(shapes) if k != event[1])
        return laid_in(plan, *event[1:4]), others + event[4]
    if word == "mirror":
        return mirrored(plan), shapes
    return turned(plan), tuple(over((1, 1), shape) for shape in shapes)


def told_outcome(plan, shapes, event):
    """The pair (reason, new plan and shapes) of an event; one of the two is None."""
    if any(event[at] >= len(plan) for at in PICTURES.get(event[0], ())):
        return "picture", None
    try:
        new = told_change(plan, shapes, event)
    except NotUsable:
        return "places", None
    return ("size", None) if len(new[0]) > 12 else (None, new)


def random_event(source, plan):
    """An event of any kind, many of which can happen to the plan."""
    many = len(plan)
    picture = source.randrange(many + (source.random() < 0.05))
    place = source.choice(SIDES + tuple(range(many)) + (many, 39)[:source.random() < 0.1])
    circle = plan[min(picture, many - 1)]
    shape = quotient_of(source, source.choice((1, 1, 20)))
    word = source.choice(("shape", "part", "part", "part", "join", "turn", "turn", "out", "shut", "lay", "mirror", "quarter"))
    if word == "shape":
        return word, picture, shape
    if word == "part":
        return word, picture, source.choice(circle), source.choice(circle + (place,)), shape
    if word == "join":
        return word, picture, source.choice([k for k in circle if k >= 0] + [source.randrange(many)]), shape
    if word == "turn":
        pair = (source.choice((picture, place)), source.choice(circle))
        return (word,) + (pair if source.random() < 0.5 else pair[::-1])
    if word == "out":
        return word, source.choice([k for k in range(many) if len(plan[k]) == 3] + [picture])
    if word == "shut":
        rings = rings_of_four(plan) + ((0, 1, 2, 3), (W, N, E, S))
        ring = source.choice(rings)
        at = source.randrange(4)
        return word, (ring[at:] + ring[:at])[::source.choice((1, 1, 1, -1))], shape
    if word == "lay":
        inner = source.choice((ONE, TWO, TUCKED, FOUR, FIVE, BARS, grown_plan(3, source.randrange(9))))
        fours = [k for k in range(many) if len(plan[k]) == 4] + [picture]
        picture = source.choice(fours)
        first = source.choice(plan[min(picture, many - 1)] + (place,))
        return word, picture, first, inner, tuple(quotient_of(source, 1) for _ in inner)
    return (word,)
