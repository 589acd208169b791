"""Points 36 and 37: the checker of two ways, and least lots."""

import unittest

from hungwall.leastlots import least_lots, least_meeting, meets_ways
from hungwall.straightways import all_ways, straight_ways
from hungwall.twochecker import lets_two
from hungwall.twoways import holds_way, two_ways
from tests.helping import (
    BARS, FIVE, FOUR, NAMED, NOT_KINDS, NOT_PLANS, ONE, TUCKED, TWO, HungTest, grown_plans, lots_of, mixed_plans,
    not_lots, pile,
)

KINDS = ("level", "upright")
SMALL = NAMED + tuple(grown_plans(counts=(2, 3, 4, 5), seeds=range(3)) + mixed_plans((4, 5), range(3)))
TWELVE = tuple(grown_plans(counts=(11, 12), seeds=range(2)) + mixed_plans((9, 12), range(3))) + (pile(12),)


def others_than(plan, lot):
    """The lot of the pictures that are not in a lot."""
    return tuple(k for k in range(len(plan)) if k not in lot)


class LetsTwo(HungTest):
    def test_all_ways_and_lots(self):
        for plan in SMALL:
            ways = [(kind, way) for kind in KINDS for way in all_ways(plan, kind)]
            for lot in lots_of(plan):
                let = set()
                for kind, way in ways:
                    wrong = [k for k in way if (k in lot) != (kind == "upright")]
                    if wrong:
                        self.no_paper("lot", wrong[0], lets_two, plan, lot, (kind, way))
                    else:
                        self.assert_exactly(lets_two(plan, lot, (kind, way)), kind)
                        let.add(kind)
                # Pairs of one word alone are accepted.
                self.assertEqual(let, {two_ways(plan, lot)[0]})

    def test_two_ways(self):
        for plan in TWELVE:
            lots = [(), tuple(range(len(plan)))] + [way for kind in KINDS for way in least_lots(plan, kind)]
            for lot in lots:
                found = two_ways(plan, lot)
                self.answers(found[0], lets_two, plan, lot, found)

    def test_form(self):
        good = ("level", (0, 4, 2))
        things = (
            None, True, 0, "", "level", (), [], ("level",), list(good), good + (0,), good[::-1], ("across", (0, 4, 2)),
            (True, (0, 4, 2)), (None, None), (["level"], (0, 4, 2)), (("level",), (0, 4, 2)), ("Level", (0, 4, 2)),
            ((0, 4, 2), "level"), ("lev", "el"), ("", ()),
        )
        for thing in things:
            self.no_paper("form", -1, lets_two, FIVE, (1, 3), thing)
            self.no_paper("form", -1, lets_two, plan=FIVE, lot=(1, 3), thing=thing)

    def test_way(self):
        things = (
            None, (), [], "", 0, [0, 4, 2], (False, 4, 2), (0, 4), (4, 2), (0, 2), (0, 4, 4, 2), (0, 5), (-4, 0, 4, 2),
            (0, 4, True), ((0, 4, 2),), (1,), (2, 4, 0), ("0", "4", "2"),
        )
        for way in things:
            self.no_paper("way", -1, lets_two, FIVE, (1, 3), ("level", way))
        # A way of the other kind is none of this one.
        self.no_paper("way", -1, lets_two, FIVE, (1, 3), ("upright", (3, 4, 1)))
        self.no_paper("way", -1, lets_two, FIVE, (0, 3), ("level", (0, 3)))
        self.answers("upright", lets_two, FIVE, (0, 3), ("upright", (0, 3)))

    def test_first_one_of_the_lot(self):
        self.no_paper("lot", 4, lets_two, FIVE, (1, 2, 4), ("level", (0, 4, 2)))
        self.no_paper("lot", 2, lets_two, FIVE, (1, 2), ("level", (0, 4, 2)))
        self.no_paper("lot", 1, lets_two, FIVE, (3,), ("upright", (1, 4, 3)))
        self.no_paper("lot", 3, lets_two, FIVE, (1, 4), ("upright", (1, 4, 3)))
        self.no_paper("lot", 0, lets_two, ONE, (), ("upright", (0,)))
        self.answers("level", lets_two, ONE, (), ("level", (0,)))
        self.no_paper("lot", 0, lets_two, ONE, (0,), ("level", (0,)))
        self.answers("upright", lets_two, ONE, (0,), ("upright", (0,)))

    def test_wrong(self):
        good = {"plan": FIVE, "lot": (1, 3), "thing": ("level", (0, 4, 2))}
        self.refuses(lets_two, good, {"plan": NOT_PLANS, "lot": not_lots(5)})
        self.not_usable("lot", lets_two, FIVE, (True,), None)


class LeastLots(HungTest):
    def test_by_their_definition(self):
        for plan in SMALL:
            lots = lots_of(plan)
            for kind in KINDS:
                ways = [set(way) for way in all_ways(plan, kind)]
                meeting = [set(lot) for lot in lots if all(way & set(lot) for way in ways)]
                for lot in lots:
                    self.assert_exactly(meets_ways(plan, kind, lot), set(lot) in meeting)
                least = [lot for lot in meeting if not any(less < lot for less in meeting)]
                self.answers(tuple(sorted(tuple(sorted(lot)) for lot in least)), least_meeting, plan, kind)
                holding = [set(lot) for lot in lots if any(way <= set(lot) for way in ways)]
                least = [lot for lot in holding if not any(less < lot for less in holding)]
                self.answers(tuple(sorted(tuple(sorted(lot)) for lot in least)), least_lots, plan, kind)

    def test_straight_ways(self):
        for plan in SMALL + TWELVE:
            for kind, other in (KINDS, KINDS[::-1]):
                ways = straight_ways(plan, kind)
                lots = tuple(sorted(tuple(sorted(way)) for way in ways))
                self.answers(lots, least_lots, plan, kind)
                self.answers(lots, least_meeting, plan, other)
                self.is_set(lots)
                for lot in lots:
                    self.answers(True, holds_way, plan, kind, lot)
                    self.answers(True, meets_ways, plan, other, lot)
                    for k in lot:
                        less = tuple(j for j in lot if j != k)
                        self.answers(False, meets_ways, plan, other, less)

    def test_edges(self):
        for kind in KINDS:
            self.answers(((0,),), least_lots, ONE, kind)
            self.answers(((0,),), least_meeting, TUCKED, kind)
            for plan in SMALL + TWELVE:
                self.answers(False, meets_ways, plan, kind, ())
                self.answers(True, meets_ways, plan, kind, tuple(range(len(plan))))
        self.answers(((0, 1),), least_lots, TWO, "level")
        self.answers(((0,), (1,)), least_meeting, TWO, "level")
        self.answers(((0,), (1,), (2, 3, 4)), least_lots, BARS, "level")
        self.answers(((0, 1, 2), (0, 1, 3), (0, 1, 4)), least_lots, BARS, "upright")

    def test_other_kind(self):
        for plan in SMALL:
            for lot in lots_of(plan):
                for kind, other in (KINDS, KINDS[::-1]):
                    self.assertEqual(meets_ways(plan, kind, lot), holds_way(plan, other, lot))
                    self.assertNotEqual(holds_way(plan, kind, lot), holds_way(plan, other, others_than(plan, lot)))

    def test_wrong(self):
        wrong = {"plan": NOT_PLANS, "kind": NOT_KINDS, "lot": not_lots(4)}
        self.refuses(meets_ways, {"plan": FOUR, "kind": "level", "lot": (1, 3)}, wrong)
        for call in (least_lots, least_meeting):
            self.refuses(call, {"plan": FOUR, "kind": "upright"}, wrong)


if __name__ == "__main__":
    unittest.main()
