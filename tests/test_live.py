"""Points 83 to 89: events and logs, a living wall, logs replayed; and what points 11 and 92 say of these."""

import itertools
import random
import unittest
from fractions import Fraction

from hungwall.errors import InvalidEvent, NothingToUndo
from hungwall.fates import fates_of
from hungwall.faces import faces_at
from hungwall.growing import can_join
from hungwall.hanging import hung
from hungwall.insides import inner_plan
from hungwall.leastwidths import height_of
from hungwall.live import LiveHung
from hungwall.liveevents import is_event, is_log
from hungwall.points import points_in
from hungwall.replaying import replayed
from hungwall.rings import rings_of_four
from hungwall.settling import are_alike
from hungwall.tieturns import can_turn
from hungwall.turnings import turned
from hungwall.wallturns import mirrored_boxes, turned_boxes
from tests.helping import (
    FIVE, FOUR, N, NAMED, NOTHINGS, NOT_PLANS, NOT_POSITIVE, ONE, S, TUCKED, TWO, W, E, HungTest, grown_plans,
    kinds_of_shapes, not_places, not_shapes, pile, spun_plans,
)
from tests.judge import is_sized, number, spans
from tests.lives import EVENTS, random_event, told_change, told_outcome
from tests.test_fates import SIX

PLANS = NAMED + (SIX, pile(12)) + tuple(grown_plans(counts=(3, 5, 9, 12), seeds=range(2)) + spun_plans((6, 9), range(3)))


def same(many, top=1, bottom=1):
    return ((top, bottom),) * many


def wrong_values():
    """Values of events that are not as stated: for each event of a kind, the index of the value, and what is wrong there."""
    pictures = not_places(40) + (W, N, E, S)
    places = not_places(40)
    rings = (
        None, True, 0, "", "0,1,2,3", (), [0, 1, 2, 3], (0, 1, 2), (0, 1, 2, 3, 4), (0, 1, 2, 40), (0, 1, 2, -5), (0, True, 2, 3),
        (False, 1, 2, 3), (0, 1, 2, None), ((0, 1, 2, 3),), (0, 1, 2, "3"),
    )
    kinds = {
        ("shape", 0, (2, 1)): (pictures, NOT_POSITIVE), ("part", 0, N, S, (1, 1)): (pictures, places, places, NOT_POSITIVE),
        ("join", 0, 1, (1, 1)): (pictures, pictures, NOT_POSITIVE), ("turn", W, 2): (places, places), ("out", 7): (pictures,),
        ("shut", (0, 1, 2, 3), (1, 1)): (rings, NOT_POSITIVE),
        ("lay", 4, W, FIVE, same(5)): (pictures, places, NOT_PLANS + (FOUR,), not_shapes(5)),
    }
    for event, values in kinds.items():
        for at, wrong in enumerate(values):
            for value in wrong:
                yield event[:at + 1] + (value,) + event[at + 2:]


class Events(HungTest):
    def test_events(self):
        for event in EVENTS:
            self.answers(True, is_event, event)
            self.assert_exactly(is_event(thing=event), True)
            self.answers(False, is_event, list(event))
            self.answers(False, is_event, event[1:])
            self.answers(False, is_event, event[:-1])
            self.answers(False, is_event, event + (0,))
            self.answers(False, is_event, event + ((1, 1),))
            self.answers(False, is_event, (event[0] + "s",) + event[1:])
            self.answers(False, is_event, (event[0].upper(),) + event[1:])
            self.answers(False, is_event, ([event[0]],) + event[1:])
            self.answers(False, is_event, (event,))
        self.answers(True, is_event, ("lay", 0, W, pile(13), same(13)))

    def test_wrong_events(self):
        for event in wrong_values():
            self.assertIs(is_event(event), False, event)
        for thing in NOTHINGS + ("mirror", ("mirror", "mirror"), (("mirror",),), (True,), (None, 0), ("",), ("undo", 1), "out"):
            self.assertIs(is_event(thing), False)

    def test_logs(self):
        for plan, events in itertools.product(PLANS[:6], ((), EVENTS, EVENTS[:1], (("mirror",),) * 40)):
            self.answers(True, is_log, (plan, same(len(plan)), events))
            for wrong in (
                [plan, same(len(plan)), events], (plan, same(len(plan))), (plan, same(len(plan)), events, ()),
                (plan, same(len(plan) + 1), events), (list(plan), same(len(plan)), events), (plan, same(len(plan)), list(events)),
                (plan, same(len(plan)), events + ("mirror",)), (plan, same(len(plan)), events + (["mirror"],)),
                (plan, same(len(plan)), (None,) + events[1:]), (same(len(plan)), plan, events), (plan, events, same(len(plan))),
                (plan, same(len(plan)), None), (plan, same(len(plan)), (("mirror",),) * 41),
            ):
                self.assertIs(is_log(wrong), False)
        for plan in NOT_PLANS:
            self.assertIs(is_log((plan, same(1), ())), False)
        for shapes in not_shapes(5):
            self.assertIs(is_log((FIVE, shapes, ())), False)
        for thing in NOTHINGS + (ONE, (ONE,), LiveHung(ONE, same(1))):
            self.assertIs(is_log(thing), False)
        self.assert_exactly(is_log(thing=(ONE, same(1), ())), True)


class Present(HungTest):
    """What a living wall tells is what the functions tell of the plan and shapes that the events lead to."""

    def is_now(self, live, plan, shapes):
        self.answers(plan, live.plan_now)
        self.answers(shapes, live.shapes_now)
        self.assert_exactly(live.height_now(), height_of(plan, shapes))
        self.assert_exactly(live.hung_now(), hung(plan, shapes))
        self.assert_exactly(live.points_now(), points_in(plan, shapes))
        if len(plan) <= 9:
            self.assert_exactly(live.fates_now(), fates_of(plan))

    def test_first(self):
        for plan in PLANS:
            shapes = kinds_of_shapes(len(plan), 2)[2]
            live = LiveHung(circles=plan, told=shapes)
            self.is_now(live, plan, shapes)
            self.assert_exactly((len(live), live.log(), live.tally()), (0, (plan, shapes, ()), (0, 0, 0, 0)))
        self.assert_exactly(LiveHung.LONGEST, 40)
        self.assert_exactly(live.LONGEST, 40)

    def test_going(self):
        for seed in range(120):
            source = random.Random(seed)
            plan = source.choice(PLANS)
            shapes = kinds_of_shapes(len(plan), seed)[source.randrange(3)]
            live = LiveHung(plan, shapes)
            states, events, tally = [(plan, shapes)], [], [0, 0, 0, 0]
            for _ in range(30):
                self.one_call(source, live, states, events, tally)
                self.assert_exactly(live.tally(), tuple(tally))
                self.assert_exactly((len(live), live.plan_now(), live.shapes_now()), (len(events),) + states[-1])
            self.is_now(live, *states[-1])
            self.assert_exactly(live.log(), (plan, shapes, tuple(events)))
            self.assertTrue(is_log(live.log()))
            self.assertEqual(replayed(live.log()), live)

    def one_call(self, source, live, states, events, tally):
        """Call go, tried, do_all or undo, and keep the same account of it."""
        how = source.random()
        event = random_event(source, states[-1][0])
        reason, new = told_outcome(*states[-1], event)
        self.answers(reason, live.reason_for, event)
        if how < 0.2:
            steps = source.choice((0, 1, 1, 2, len(events), len(events) + 1))
            if steps > len(events):
                self.raises(NothingToUndo, {"steps": steps}, live.undo, steps)
            else:
                self.assert_exactly(live.undo(steps), len(events) - steps)
                del events[len(events) - steps:], states[len(states) - steps:]
                tally[2] += steps
        elif how < 0.35:
            self.do_some(source, live, states, events, tally)
        elif reason is not None:
            call = source.choice((live.go, live.tried))
            self.raises(InvalidEvent, {"event": event, "reason": reason}, call, event)
            tally[1] += 1
        elif how < 0.5:
            self.assert_exactly(live.tried(event), height_of(*new))
            tally[3] += 1
        else:
            self.assert_exactly(live.go(event), len(new[0]))
            events.append(event)
            states.append(new)
            tally[0] += 1

    def do_some(self, source, live, states, events, tally):
        """Call do_all with a few events."""
        told, newer, reason, keep = [], [states[-1]], None, source.random() < 0.5
        for _ in range(source.randrange(4)):
            told.append(random_event(source, newer[-1][0]))
            if reason is None:
                reason, new = told_outcome(*newer[-1], told[-1])
                if reason is None:
                    newer.append(new)
        count = len(newer) - 1
        self.assert_exactly(live.do_all(tuple(told), keep), (count, reason))
        tally[1] += reason is not None
        if reason is None or keep:
            states.extend(newer[1:])
            events.extend(told[:count])
            tally[0] += count

    def test_each_kind(self):
        # Each kind of event can happen to a plan here, and does what it should.
        start = ((W, N, E, S, 1), (W, 0, S))
        for plan, event, reason in (
            (FOUR, ("shape", 3, (5, 2)), None), (FOUR, ("shape", 4, (5, 2)), "picture"),
            (FOUR, ("part", 0, 1, 3, (1, 1)), None), (FOUR, ("part", 0, 1, 1, (1, 1)), "places"),
            (FOUR, ("part", 0, 1, E, (1, 1)), "places"), (FOUR, ("part", 0, E, 1, (1, 1)), "places"),
            (FOUR, ("part", 0, 0, 1, (1, 1)), "places"), (FOUR, ("part", 0, 39, 1, (1, 1)), "places"),
            (FOUR, ("part", 4, 1, 3, (1, 1)), "picture"), (FIVE, ("join", 4, 0, (2, 1)), None),
            (FIVE, ("join", 0, 4, (2, 1)), None), (FIVE, ("join", 0, 0, (2, 1)), "places"),
            (FOUR, ("join", 1, 3, (2, 1)), "places"), (TUCKED, ("join", 0, 1, (2, 1)), None),
            (FOUR, ("join", 0, 4, (2, 1)), "picture"), (FOUR, ("join", 39, 0, (2, 1)), "picture"), (FOUR, ("turn", 0, 2), None),
            (FOUR, ("turn", 0, W), None), (FOUR, ("turn", W, 0), None), (FOUR, ("turn", W, N), "places"),
            (FOUR, ("turn", W, E), "places"), (FOUR, ("turn", 0, 0), "places"), (TWO, ("turn", 0, 1), "places"),
            (FOUR, ("turn", W, 4), "picture"), (FOUR, ("turn", 4, W), "picture"), (FOUR, ("turn", 1, 3), "places"),
            (TUCKED, ("out", 1), None), (start, ("out", 1), None), (FOUR, ("out", 1), "places"), (FOUR, ("out", 4), "picture"),
            (ONE, ("out", 0), "places"), (FIVE, ("shut", (0, 1, 2, 3), (7, 2)), None),
            (FIVE, ("shut", (2, 3, 0, 1), (7, 2)), None), (FIVE, ("shut", (3, 2, 1, 0), (7, 2)), "places"),
            (FIVE, ("shut", (0, 1, 2, 4), (7, 2)), "places"), (FIVE, ("shut", (0, 1, 2, 39), (7, 2)), "places"),
            (FIVE, ("shut", (W, N, E, S), (7, 2)), "places"), (SIX, ("shut", (1, 2, 3, 0), (7, 2)), None),
            (FIVE, ("lay", 4, 0, TWO, same(2)), None), (FIVE, ("lay", 4, 3, TWO, same(2)), None),
            (FIVE, ("lay", 4, W, TWO, same(2)), "places"), (FIVE, ("lay", 4, 39, TWO, same(2)), "places"),
            (FIVE, ("lay", 0, W, TWO, same(2)), "places"), (TUCKED, ("lay", 1, W, TWO, same(2)), "places"),
            (FIVE, ("lay", 5, 0, TWO, same(2)), "picture"), (ONE, ("lay", 0, S, FIVE, same(5)), None),
            (FIVE, ("mirror",), None), (FIVE, ("quarter",), None),
        ):
            self.one_event(plan, event, reason)

    def one_event(self, plan, event, reason):
        shapes = tuple((k + 1, 7) if k != 6 else (1, 1) for k in range(len(plan)))
        live = LiveHung(plan, shapes)
        self.answers(reason, live.reason_for, event)
        self.assert_exactly(told_outcome(plan, shapes, event)[0], reason)
        if reason is not None:
            self.raises(InvalidEvent, {"event": event, "reason": reason}, live.go, event)
            self.raises(InvalidEvent, {"event": event, "reason": reason}, live.tried, event)
            self.is_now(live, plan, shapes)
            return
        new = told_change(plan, shapes, event)
        self.assert_exactly(live.tried(event), height_of(*new))
        self.is_now(live, plan, shapes)
        self.assert_exactly(live.go(event), len(new[0]))
        self.is_now(live, *new)
        self.assert_exactly(live.undo(), 0)
        self.is_now(live, plan, shapes)

    def test_form(self):
        live = LiveHung(FOUR, same(4))
        wrong = NOTHINGS + tuple(wrong_values()) + (["mirror"], "mirror", ("mirror", 0), live)
        for count, event in enumerate(wrong):
            self.assertEqual(live.reason_for(event), "form")
            call = (live.go, live.tried)[count % 2]
            with self.assertRaises(InvalidEvent) as caught:
                call(event)
            self.assertIs(caught.exception.event, event)
            self.assertEqual((caught.exception.reason, live.tally()), ("form", (0, count + 1, 0, 0)))
        self.is_now(live, FOUR, same(4))

    def test_very_object(self):
        live = LiveHung(FOUR, same(4))
        event = ("out", 1)
        with self.assertRaises(InvalidEvent) as caught:
            live.go(event)
        self.assertIs(caught.exception.event, event)

    def test_first_reason(self):
        live = LiveHung(pile(12), same(12))
        self.answers("form", live.reason_for, ("part", 12, W, W, (2, 2)))
        self.answers("picture", live.reason_for, ("part", 12, W, W, (1, 1)))
        self.answers("places", live.reason_for, ("part", 3, W, W, (1, 1)))
        self.answers("size", live.reason_for, ("part", 3, W, E, (1, 1)))
        for _ in range(40):
            self.assert_exactly(live.go(("mirror",)), 12)
        self.answers("form", live.reason_for, ("mirror", 1))
        for event in (("mirror",), ("part", 12, W, W, (1, 1)), ("part", 3, W, W, (1, 1)), ("part", 3, W, E, (1, 1))):
            self.answers("many", live.reason_for, event)
        self.raises(InvalidEvent, {"event": ("mirror",), "reason": "many"}, live.go, ("mirror",))
        self.assert_exactly(live.do_all((("mirror",),)), (0, "many"))
        self.assert_exactly(live.do_all(()), (0, None))
        self.assert_exactly((len(live), live.tally()), (40, (40, 2, 0, 0)))
        self.assertEqual(replayed(live.log()), live)
        self.assert_exactly(live.undo(), 39)
        self.answers(None, live.reason_for, ("mirror",))
        self.answers("size", live.reason_for, ("part", 3, W, E, (1, 1)))

    def test_size(self):
        live = LiveHung(pile(11), same(11))
        self.assert_exactly(live.go(("part", 3, W, E, (1, 1))), 12)
        self.answers("size", live.reason_for, ("part", 3, W, E, (1, 1)))
        self.answers(None, live.reason_for, ("shape", 11, (1, 1)))
        live = LiveHung(pile(8), same(8))
        for inner, reason in ((FIVE, None), (SIX, "size"), (pile(40), "size")):
            self.answers(reason, live.reason_for, ("lay", 3, W, inner, same(len(inner))))
        # At its picture's places nothing fits, of whatever size.
        self.answers("places", live.reason_for, ("lay", 3, 7, SIX, same(6)))
        self.assert_exactly(live.go(("lay", 3, W, FIVE, same(5))), 12)


class Calls(HungTest):
    def test_do_all(self):
        events = (("part", 0, 1, 3, (1, 1)), ("shape", 4, (3, 1)), ("out", 4), ("mirror",))
        live = LiveHung(FOUR, same(4))
        self.assert_exactly(live.do_all(()), (0, None))
        self.assert_exactly(live.do_all((), True), (0, None))
        self.assert_exactly((len(live), live.tally()), (0, (0, 0, 0, 0)))
        self.assert_exactly(live.do_all(events), (2, "places"))
        self.assert_exactly((len(live), live.tally(), live.plan_now()), (0, (0, 1, 0, 0), FOUR))
        self.assert_exactly(live.do_all(events=events, keep=False), (2, "places"))
        self.assert_exactly(live.do_all(events=events, keep=True), (2, "places"))
        self.assert_exactly((len(live), live.tally(), live.plan_now()), (2, (2, 3, 0, 0), FIVE))
        self.assert_exactly(live.log(), (FOUR, same(4), events[:2]))
        self.assert_exactly(live.do_all((("mirror",), None), False), (1, "form"))
        self.assert_exactly((len(live), live.tally()), (2, (2, 4, 0, 0)))
        self.assert_exactly(live.do_all((("mirror",), ("mirror",))), (2, None))
        self.assert_exactly((len(live), live.tally()), (4, (4, 4, 0, 0)))
        self.assert_exactly(live.do_all(((),), True), (0, "form"))
        self.assert_exactly(live.do_all((("mirror",),) * 50, True), (36, "many"))
        self.assert_exactly((len(live), live.tally()), (40, (40, 6, 0, 0)))
        self.assert_exactly(live.undo(40), 0)
        self.assert_exactly((live.plan_now(), live.tally()), (FOUR, (40, 6, 40, 0)))

    def test_undo(self):
        live = LiveHung(FOUR, same(4))
        self.raises(NothingToUndo, {"steps": 1}, live.undo)
        self.assert_exactly(live.undo(0), 0)
        walls = [live.hung_now()]
        for event in (("part", 0, 1, 3, (1, 1)), ("shape", 4, (3, 1)), ("quarter",), ("join", 4, 0, (1, 2))):
            live.go(event)
            walls.append(live.hung_now())
        self.raises(NothingToUndo, {"steps": 5}, live.undo, 5)
        self.raises(NothingToUndo, {"steps": 10 ** 50}, live.undo, steps=10 ** 50)
        self.assert_exactly((live.undo(0), live.tally()), (4, (4, 0, 0, 0)))
        self.assert_exactly((live.undo(), live.hung_now()), (3, walls[3]))
        self.assert_exactly((live.undo(steps=2), live.hung_now()), (1, walls[1]))
        self.assert_exactly((live.undo(1), live.hung_now()), (0, walls[0]))
        self.assert_exactly(live.tally(), (4, 0, 4, 0))
        # What was undone comes back by events, not by itself.
        self.assert_exactly((live.go(("mirror",)), live.log()[2], live.tally()), (4, (("mirror",),), (5, 0, 4, 0)))

    def test_tried(self):
        live = LiveHung(FOUR, same(4))
        self.assert_exactly(live.tried(event=("shape", 0, (2, 1))), (6, 5))
        self.raises(InvalidEvent, {"event": ("out", 0), "reason": "places"}, live.tried, event=("out", 0))
        self.raises(InvalidEvent, {"event": ("out", 0), "reason": "places"}, live.go, event=("out", 0))
        self.assert_exactly((live.height_now(), len(live), live.tally()), ((1, 1), 0, (0, 2, 0, 1)))
        self.assert_exactly(live.reason_for(event=("out", 0)), "places")
        self.assert_exactly(live.tally(), (0, 2, 0, 1))

    def test_equal_logs(self):
        # The first plan, the first shapes and the events all count.
        logs = [
            (plan, shapes, events) for plan in (FOUR, turned(FOUR)) for shapes in (same(4), same(4, 2))
            for events in ((), (("mirror",),), (("quarter",),), (("mirror",), ("mirror",)))
        ]
        for one, other in itertools.product(logs, repeat=2):
            self.assertIs(replayed(one) == replayed(other), one == other)
            self.assertIs(replayed(one) != replayed(other), one != other)

    def test_equal(self):
        one, other = LiveHung(FOUR, same(4)), LiveHung(tuple(list(FOUR)), tuple(list(same(4))))
        self.assertTrue(one == other)
        self.assertFalse(one != other)
        one.go(("mirror",))
        self.assertFalse(one == other)
        other.go(("mirror",))
        self.assertTrue(one == other)
        # Counts do not matter, nor that the walls are the same.
        one.go(("quarter",))
        one.undo()
        self.assertTrue(one == other)
        one.go(("mirror",))
        other.go(("shape", 0, (1, 1)))
        self.assertEqual(LiveHung(FOUR, same(4)).plan_now(), one.plan_now())
        for thing in (other, LiveHung(FOUR, same(4)), LiveHung(FOUR, same(4, 2)), LiveHung(TWO, same(2)), FOUR, None, 2, "x"):
            self.assertIs(one == thing, False)
            self.assertIs(one != thing, True)
        self.assertFalse(one == one.log())

    def test_wrong(self):
        self.refuses(LiveHung, {"circles": FIVE, "told": same(5)}, {"circles": NOT_PLANS, "told": not_shapes(5)})
        live = LiveHung(FIVE, same(5))
        live.go(("mirror",))
        numbers = (None, True, False, -1, "", "1", (), (1,), [1], 1.0)
        self.refuses(live.undo, {"steps": 0}, {"steps": numbers})
        events = (None, True, 0, "", "mirror", [], [("mirror",)], {}, 1.0)
        keeps = (None, 0, 1, "", "True", (), (True,), [])
        self.refuses(live.do_all, {"events": (), "keep": False}, {"events": events, "keep": keeps})
        self.not_usable("keep", live.do_all, (("mirror",),), 1)
        self.assert_exactly((len(live), live.tally()), (1, (1, 0, 0, 0)))


class Replaying(HungTest):
    def test_replayed(self):
        log = (FOUR, same(4), (("part", 0, 1, 3, (1, 1)), ("quarter",)))
        live = replayed(log=log)
        self.assertIs(type(live), LiveHung)
        self.assert_exactly((live.log(), live.tally(), len(live)), (log, (2, 0, 0, 0), 2))
        self.assertEqual(replayed(live.log()), live)
        self.assertIsNot(replayed(live.log()), live)
        self.assert_exactly(replayed((ONE, same(1), ())).log(), (ONE, same(1), ()))

    def test_cannot(self):
        for events, at, reason in (
            ((("out", 0), ("out", 9)), 0, "places"), ((("mirror",), ("shape", 4, (1, 1)), ("out", 0)), 1, "picture"),
            ((("part", 0, 1, 3, (1, 1)), ("join", 1, 3, (1, 1))), 1, "places"),
            ((("lay", 0, W, pile(12), same(12)),), 0, "places"),
        ):
            log = (FOUR, same(4), events)
            self.assertTrue(is_log(log))
            self.raises(InvalidEvent, {"event": events[at], "reason": reason}, replayed, log)
        log = (ONE, same(1), (("lay", 0, W, pile(12), same(12)), ("part", 0, W, E, (1, 1))))
        self.raises(InvalidEvent, {"event": log[2][1], "reason": "size"}, replayed, log)

    def test_wrong(self):
        wrong = NOTHINGS + (
            (ONE, same(1)), [ONE, same(1), ()], (ONE, same(1), []), (ONE, same(1), (None,)), (ONE, same(2), ()), (ONE, same(1), 1),
            (ONE, same(1), (("mirror",),) * 41),
        )
        for log in wrong:
            self.not_usable("log", replayed, log)
            self.not_usable("log", replayed, log=log)


class Consequences(HungTest):
    def test_back(self):
        for at, plan in enumerate(PLANS):
            if len(plan) == 12:
                continue
            live = LiveHung(plan, kinds_of_shapes(len(plan), at)[2])
            for picture in range(0, len(plan), 2):
                for first, last in itertools.permutations(plan[picture], 2):
                    live.go(("part", picture, first, last, (7, 2)))
                    if can_join(live.plan_now(), picture, len(plan)):
                        live.go(("join", picture, len(plan), (1, 1)))
                        self.assertEqual(live.plan_now(), plan)
                    live.undo(len(live))
            for one, other in itertools.combinations(range(-4, len(plan)), 2):
                if can_turn(plan, one, other):
                    third = faces_at(plan, one, other)
                    self.assert_exactly(live.do_all((("turn", one, other), ("turn",) + third)), (2, None))
                    self.assertEqual(live.plan_now(), plan)
                    live.undo(2)

    def test_turned(self):
        for at, plan in enumerate(PLANS):
            live = LiveHung(plan, kinds_of_shapes(len(plan), at)[2])
            wall = live.hung_now()
            live.go(("mirror",))
            self.assertEqual(live.hung_now(), mirrored_boxes(wall))
            live.undo()
            live.go(("quarter",))
            self.assertEqual(live.hung_now(), turned_boxes(wall))

    def test_rings(self):
        for at, plan in enumerate(PLANS):
            shapes = kinds_of_shapes(len(plan), at)[2]
            for ring in rings_of_four(plan):
                live = LiveHung(plan, shapes)
                inner, inside = inner_plan(plan, ring)
                kept = [k for k in range(len(plan)) if k not in inside]
                spot = live.go(("shut", ring, (1, 1))) - 1
                first = ring[0] if ring[0] < 0 else kept.index(ring[0])
                live.go(("lay", spot, first, inner, tuple(shapes[k] for k in inside)))
                self.assertTrue(are_alike(live.plan_now(), plan))
                self.assertEqual(live.height_now(), height_of(plan, shapes))

    def test_points(self):
        for at, plan in enumerate(PLANS):
            shapes = kinds_of_shapes(len(plan), at)[1]
            live = LiveHung(plan, shapes)
            height, boxes = live.hung_now()
            for picture in range(len(plan)):
                if picture in live.points_now():
                    live.go(("shape", picture, (22, 7)))
                    self.assertEqual(live.hung_now(), (height, boxes))
                    live.undo()
                if len(plan[picture]) == 3:
                    live.go(("out", picture))
                    self.assertEqual(live.hung_now(), (height, boxes[:picture] + boxes[picture + 1:]))
                    live.undo()
                if len(plan) < 12:
                    circle = plan[picture]
                    live.go(("part", picture, circle[-1], circle[0], (3, 4)))
                    self.assertEqual(live.hung_now()[1][:-1], boxes)
                    self.assertIn(len(plan), live.points_now())
                    live.undo()

    def test_laid(self):
        seen = 0
        for at, plan in enumerate(PLANS):
            shapes = kinds_of_shapes(len(plan), at)[1]
            height, boxes = hung(plan, shapes)
            for picture, circle in enumerate(plan):
                if len(circle) != 4 or len(plan) > 10 or not is_sized(boxes[picture]):
                    continue
                for first in circle:
                    if not self.is_left(boxes, picture, first):
                        continue
                    seen += 1
                    # Side by side the two have the shape of the picture.
                    twice = number(shapes[picture]) * 2
                    told = ((Fraction(twice).numerator, Fraction(twice).denominator),) * 2
                    live = LiveHung(plan, shapes)
                    live.go(("lay", picture, first, TWO, told))
                    self.assertEqual(live.hung_now()[0], height)
                    self.assertEqual(live.hung_now()[1][:-2], boxes[:picture] + boxes[picture + 1:])
        self.assertGreater(seen, 10)

    def is_left(self, boxes, picture, place):
        """Whether a picture has a border with a place on its left."""
        across, upward = spans(boxes[picture])
        if place < 0:
            return place == W and across[0] == 0
        other = spans(boxes[place])
        return other[0][1] == across[0] and min(other[1][1], upward[1]) > max(other[1][0], upward[0])


if __name__ == "__main__":
    unittest.main()
