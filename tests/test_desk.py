"""Points 90 and 91: events as lines, and a desk at which a living wall answers lines."""

import itertools
import random
import unittest

from hungwall.desk import at_desk
from hungwall.errors import InvalidText, NotUsable
from hungwall.eventreadings import read_event
from hungwall.eventtexts import event_line
from hungwall.live import LiveHung
from hungwall.liveevents import is_event
from hungwall.plantexts import plan_line, shapes_line
from hungwall.replaying import replayed
from tests.helping import (
    BARS, FIVE, FOUR, N, NAMED, NOTHINGS, NOT_TEXTS, ONE, S, TUCKED, TWO, W, E, HungTest, grown_plans, kinds_of_shapes, pile,
    spun_plans,
)
from tests.lives import EVENTS, random_event, told_change, told_outcome

PLANS = NAMED + tuple(grown_plans(counts=(3, 5, 9), seeds=range(2)) + spun_plans((6, 9), range(3)))
# Words of each kind that are not of their form.
NOT_PICTURES = ("", "x", "W", "40", "00", "01", "-1", "+1", "1.0", "1/2", "100", "1,2", "mirror", "plan")
NOT_PLACES = tuple(word for word in NOT_PICTURES if word != "W") + ("w", "WN", "NW", "-4", "-1", "A")
NOT_RINGS = (
    "", "x", "0", "0,1,2", "0,1,2,3,4", "0,1,2,40", "0,1,2,", ",0,1,2", "0,,1,2", "00,1,2,3", "0,1,2,w", "0;1;2;3", "(0,1,2,3)", "0,1,2,-1",
)
NOT_SHAPES = ("", "x", "0", "0/1", "1/0", "1/1", "2/4", "01", "1/02", "-1", "1/2/3", "/2", "1/", "1.5", "W", "1,2", "a/b", "+1")


def same(many, top=1, bottom=1):
    return ((top, bottom),) * many


class Lines(HungTest):
    def test_lines(self):
        for event, line in (
            (("shape", 0, (2, 1)), "shape 0 2"), (("shape", 39, (2, 3)), "shape 39 2/3"),
            (("part", 0, N, 3, (1, 1)), "part 0 N 3 1"), (("part", 12, 10, S, (7, 22)), "part 12 10 S 7/22"),
            (("join", 10, 2, (1, 3)), "join 10 2 1/3"), (("turn", W, 2), "turn W 2"), (("turn", 0, 39), "turn 0 39"),
            (("turn", E, E), "turn E E"), (("out", 4), "out 4"), (("shut", (W, 0, E, 11), (5, 2)), "shut W,0,E,11 5/2"),
            (("shut", (N, N, 7, 7), (1, 1)), "shut N,N,7,7 1"), (("mirror",), "mirror"), (("quarter",), "quarter"),
            (("lay", 4, W, TWO, ((1, 1), (2, 3))), "lay 4 W plan W,N,1,S N,E,S,0 shapes 1 2/3"),
            (("lay", 39, 0, ONE, ((1, 7),)), "lay 39 0 plan W,N,E,S shapes 1/7"),
        ):
            self.answers(line, event_line, event)
            self.answers(event, read_event, line)
            self.assert_exactly(event_line(event=event), line)
            self.assert_exactly(read_event(text=line), event)

    def test_there_and_back(self):
        source = random.Random(1)
        events = list(EVENTS) + [random_event(source, plan) for plan in PLANS for _ in range(40)]
        events += [("lay", 0, N, plan, kinds_of_shapes(len(plan), 3)[3]) for plan in PLANS + (pile(40),)]
        for event in events:
            if is_event(event):
                self.assert_exactly(read_event(event_line(event)), event)
        self.assertEqual({event[0] for event in events}, {event[0] for event in EVENTS})

    def fails(self, line, field):
        self.raises(InvalidText, {"line": 0, "field": field}, read_event, line)

    def test_first_word(self):
        for word in ("", "x", "Shape", "shapes", "plan", "undo", "tried", "mirror,", "0", "W"):
            self.fails(word, 0)
            self.fails(word + " 0 1", 0)
        self.fails(" mirror", 0)
        self.fails("shape\n0 1", 0)

    def test_words(self):
        kinds = {
            "shape 0 2": (NOT_PICTURES, NOT_SHAPES), "part 0 N 3 1/2": (NOT_PICTURES, NOT_PLACES, NOT_PLACES, NOT_SHAPES),
            "join 0 1 2": (NOT_PICTURES, NOT_PICTURES, NOT_SHAPES), "turn W 2": (NOT_PLACES, NOT_PLACES),
            "out 4": (NOT_PICTURES,), "shut 0,1,2,3 1": (NOT_RINGS, NOT_SHAPES), "mirror": (), "quarter": (),
            "lay 4 W plan W,N,E,S shapes 1": (
                NOT_PICTURES, NOT_PLACES, ("", "Plan", "plans", "shapes", "W,N,E,S", "0"),
                ("", "x", "W,N", "W,N,0", "N,W,E", "W,N,E,E", "W,N,40", "W,,N,E", "plan", "shape", "1"), (), NOT_SHAPES + ("shapes",),
            ),
        }
        for line, forms in kinds.items():
            words = line.split(" ")
            for at, wrong in enumerate(forms):
                for word in wrong:
                    told = words[:at + 1] + [word] + words[at + 2:]
                    self.fails(" ".join(told), at + 1)
                    # The first word at fault counts, also ahead of one too many.
                    self.fails(" ".join(told + ["?"]), at + 1)
                    self.fails(" ".join(told[:at + 2]), at + 1)
            for more in ("", "0", "x", "W"):
                self.fails(line + " " + more, len(words))
            for count in range(1, len(words)):
                self.fails(" ".join(words[:count]), count)

    def test_laid(self):
        # Each word is of its form, but they tell no event.
        for line in (
            "lay", "lay 4", "lay 4 W", "lay 4 W plan", "lay 4 W plan shapes", "lay 4 W plan shapes 1", "lay 4 W plan W,N,E,S",
            "lay 4 W plan W,N,E,S shapes", "lay 4 W plan W,N,E,S shapes 1 1", "lay 4 W plan W,N,1,S N,E,S,0 shapes 1",
            "lay 4 W plan W,N,1,S shapes 1", "lay 4 W plan W,N,E shapes 1", "lay 4 W plan W,N,E,S W,N,E,S shapes 1 1",
            "lay 4 W plan W,N,1 N,E,S shapes 1 2/3",
        ):
            self.fails(line, len(line.split(" ")))
        self.fails("lay 4 W plan W,N,E,S shapes 1 shapes 1", 7)
        self.fails("lay 4 W plan W,N,E,S 1 shapes 1", 5)
        self.fails("lay 4 W plan W,N,1,S N,E,S,1 shapes 1 1", 5)
        self.fails("lay 4 W plan W,N,E,S  shapes 1", 5)
        self.fails("lay 4 W plan W,N,E,S shapes  1", 6)
        self.fails("lay 4 W plan W,N,E,S shapes 1 ", 7)
        self.fails("lay 4  W plan W,N,E,S shapes 1", 2)

    def test_wrong(self):
        events = NOTHINGS + (["mirror"], "mirror", ("mirror", 0), ("out", True), ("out", 40), ("shape", 0, (2, 2)))
        self.refuses(event_line, {"event": ("mirror",)}, {"event": events})
        self.refuses(read_event, {"text": "mirror"}, {"text": NOT_TEXTS})


class Desk(HungTest):
    def says(self, live, line, want):
        self.assert_exactly(at_desk(live, line), want)

    def test_events(self):
        source = random.Random(3)
        for plan in PLANS:
            live = LiveHung(plan, kinds_of_shapes(len(plan), 1)[2])
            for _ in range(25):
                event = random_event(source, live.plan_now())
                line = event_line(event)
                reason, new = told_outcome(live.plan_now(), live.shapes_now(), event)
                tally = live.tally()
                if reason is not None:
                    self.says(live, line, "no " + reason)
                    self.says(live, "tried " + line, "no " + reason)
                    self.assert_exactly(live.tally(), (tally[0], tally[1] + 2) + tally[2:])
                    continue
                height = LiveHung(*new).height_now()
                self.says(live, "tried " + line, "height " + shapes_line((height,))[7:])
                self.says(live, line, "done " + str(len(new[0])))
                self.assert_exactly((live.plan_now(), live.shapes_now()), new)
                self.says(live, "height", "height " + shapes_line((height,))[7:])
                self.assert_exactly(live.tally(), (tally[0] + 1, tally[1], tally[2], tally[3] + 1))
            self.tells_all(live)
            self.read_back(live)

    def tells_all(self, live):
        """The lines of one word tell what the methods do."""
        self.says(live, "plan", plan_line(live.plan_now()))
        self.says(live, "shapes", shapes_line(live.shapes_now()))
        self.says(live, "points", " ".join(["points"] + [str(k) for k in live.points_now()]))
        if len(live.plan_now()) <= 9:
            self.says(live, "fates", " ".join(("fates",) + live.fates_now()))
        self.says(live, "tally", "tally {} {} {} {}".format(*live.tally()))
        for picture, box in enumerate(live.hung_now()[1]):
            words = [f"{top}/{bottom}" if bottom > 1 else str(top) for top, bottom in box]
            self.says(live, f"box {picture}", " ".join(["box"] + words))
        self.says(live, f"box {len(live.plan_now())}", "no picture")

    def read_back(self, live):
        """The lines of the log lead back to the living wall."""
        circles, told, events = live.log()
        lines = at_desk(live, "log").split("\n")
        self.assertEqual(lines[:2], [plan_line(circles), shapes_line(told)])
        self.assertEqual(tuple(read_event(line) for line in lines[2:]), events)
        other = LiveHung(circles, told)
        for line in lines[2:]:
            at_desk(other, line)
        self.assertEqual(other, live)
        self.assertEqual(replayed(live.log()), live)

    def test_examples(self):
        live = LiveHung(FOUR, same(4))
        for line, want in (
            ("height", "height 1"), ("points", "points"), ("tally", "tally 0 0 0 0"), ("undo", "no undo"), ("undo 0", "undone 0"),
            ("shape 0 2", "done 4"), ("height", "height 6/5"), ("part 0 1 3 1", "done 5"), ("height", "height 13/11"),
            ("box 4", "box 4/11 5/11 1/11 1/11"), ("box 0", "box 0 5/11 4/11 8/11"), ("shape 0 1", "done 5"),
            ("points", "points 4"), ("box 4", "box 1/2 1/2 0 0"), ("fates", "fates never never never never both"),
            ("tally", "tally 3 0 0 0"), ("undo 4", "no undo"), ("undo 2", "undone 1"), ("shapes", "shapes 2 1 1 1"),
            ("tried quarter", "height 5/6"), ("tried out 0", "no places"), ("out 0", "no places"), ("out 4", "no picture"),
            ("tally", "tally 3 3 2 1"), ("undo 1", "undone 0"), ("undo 1", "no undo"),
            ("log", "plan W,N,1,2,3 N,E,2,0 E,S,3,0,1 W,0,2,S\nshapes 1 1 1 1"), ("mirror", "done 4"),
            ("log", "plan W,N,1,2,3 N,E,2,0 E,S,3,0,1 W,0,2,S\nshapes 1 1 1 1\nmirror"), ("tally", "tally 4 3 3 1"),
            ("lay 1 N plan W,N,1,S N,E,S,0 shapes 1 2/3", "done 5"), ("undo", "undone 1"), ("part 0 W W 1", "no places"),
        ):
            self.says(live, line, want)
        self.assert_exactly(at_desk(live=live, text="height"), "height 1")

    def test_many(self):
        live = LiveHung(pile(11), same(11))
        self.says(live, "part 3 W E 1", "done 12")
        self.says(live, "part 3 W E 1", "no size")
        for count in range(39):
            self.says(live, "mirror", "done 12")
        self.says(live, "mirror", "no many")
        self.says(live, "undo 99", "no undo")
        self.says(live, "undo 40", "undone 0")
        self.says(live, "box 11", "no picture")
        self.says(live, "box 10", "box 0 0 1 1")

    def test_what(self):
        live = LiveHung(FIVE, same(5))
        for line, field in (
            ("", 0), (" ", 0), ("x", 0), ("Height", 0), ("height ", 1), ("points ", 1), ("points 4", 1), (" points", 0), ("fates x", 1),
            ("tally  ", 1), ("plan W,N,E,S", 1), ("shapes 1", 1), ("log log", 1), ("undo ", 1), ("undo x", 1), ("undo 100", 1),
            ("undo 00", 1), ("undo 01", 1), ("undo -1", 1), ("undo 1 1", 2), ("undo 1 ", 2), ("undo x 1", 1), ("undo  1", 1),
            ("box", 1), ("box ", 1), ("box W", 1), ("box 40", 1), ("box 00", 1), ("box 4 ", 2), ("box 4 4", 2), ("box 39 4", 2),
            ("box x 4", 1), ("tried", 1), ("tried ", 1), ("tried x", 1), ("tried tried mirror", 1), ("tried height", 1),
            ("tried undo", 1), ("tried  mirror", 1), ("tried mirror ", 2), ("tried turn 1 x", 3), ("tried turn 1", 3),
            ("tried turn", 2), ("tried turn 1 2 3", 4), ("turn 1 x", 2), ("turn 1", 2), ("turn 1 2 3", 3), ("mirror mirror", 1),
            ("shape 0 0", 2), ("lay 4 W plan W,N,E,S", 5), ("tried lay 4 W plan W,N,E,S", 6),
            ("tried lay 4 W plan W,N,E,S shapes 1 1", 9), ("tried lay 4 W plan W,N,E shapes 1", 8), ("undone", 0), ("done 5", 0),
            ("no", 0), ("what 0", 0), ("mirror\n", 0), ("shut 0,1,2 1", 1), ("box 1\n", 1),
        ):
            self.says(live, line, f"what {field}")
        self.assert_exactly((len(live), live.tally(), live.plan_now()), (0, (0, 0, 0, 0), FIVE))
        self.says(live, "box 39", "no picture")
        self.says(live, "undo 99", "no undo")

    def test_blanks(self):
        live = LiveHung(TUCKED, same(2))
        for line in ("height", "points", "fates", "tally", "plan", "shapes", "log", "mirror", "undo", "box 0", "out 1"):
            doubled = line.replace(" ", "  ")
            if doubled != line:
                self.says(live, doubled, "what 1")
            self.says(live, " " + line, "what 0")
            self.says(live, line + " ", f"what {len(line.split(' '))}")
        self.assert_exactly(live.log(), (TUCKED, same(2), ()))

    def test_wrong(self):
        live = LiveHung(ONE, same(1))
        for wrong in NOTHINGS + (FOUR, (FOUR, same(4), ())):
            self.not_usable("live", at_desk, wrong, "height")
            self.not_usable("live", at_desk, text=None, live=wrong)
        for wrong in NOT_TEXTS:
            with self.assertRaises(NotUsable) as caught:
                at_desk(live, wrong)
            self.assertEqual((caught.exception.word, caught.exception.at), ("text", -1))
        self.assert_exactly(live.tally(), (0, 0, 0, 0))

    def test_changes(self):
        # What an event's line does is what the event does.
        for plan, event in itertools.product((FOUR, FIVE, BARS), EVENTS):
            shapes = kinds_of_shapes(len(plan), 5)[1]
            live = LiveHung(plan, shapes)
            reason, _ = told_outcome(plan, shapes, event)
            answer = at_desk(live, event_line(event))
            if reason is None:
                new = told_change(plan, shapes, event)
                self.assert_exactly((answer, live.plan_now(), live.shapes_now()), (f"done {len(new[0])}",) + new)
            else:
                self.assertEqual((answer, len(live)), ("no " + reason, 0))


if __name__ == "__main__":
    unittest.main()
