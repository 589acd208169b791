"""Points 39 and 41: who follows whom on straight ways, ways through and by pictures, and the class Ways."""

import itertools
import unittest

from hungwall.followings import followings, way_by, way_through
from hungwall.lengths import shortest_way
from hungwall.rings import inside_of, rings_of_three
from hungwall.straightways import straight_ways
from hungwall.twoways import holds_way
from hungwall.wayclasses import Ways
from hungwall.waykinds import is_way
from tests.helping import (
    BARS, FIVE, NAMED, NOT_KINDS, NOT_PLANS, ONE, TUCKED, TWO, HungTest, grown_plans, lots_of, mixed_plans, not_lots,
    not_pictures, not_tables, pile,
)
from tests.test_lengths import TOLD, tables_of
from tests.test_ways import NOT_WAYS, told_straight, told_way, told_ways

KINDS = ("level", "upright")
SMALL = NAMED + tuple(grown_plans(counts=(2, 3, 4, 5), seeds=range(3)) + mixed_plans((4, 5), range(3)))
TWELVE = tuple(grown_plans(counts=(11, 12), seeds=range(2)) + mixed_plans((9, 12), range(3))) + (pile(12),)


def steps_on(way):
    return list(zip(way, way[1:]))


class Followings(HungTest):
    def test_all(self):
        for plan in SMALL + TWELVE:
            for kind in KINDS:
                if len(plan) <= 5:
                    ways = [way for way in told_ways(plan, kind) if told_straight(plan, kind, way)]
                else:
                    ways = straight_ways(plan, kind)
                want = sorted({step for way in ways for step in steps_on(way)})
                self.answers(tuple(want), followings, plan, kind)
                for k in range(len(plan)):
                    self.is_one(plan, kind, way_through(plan, kind, k), [way for way in ways if k in way])
                for one, other in itertools.product(range(len(plan)), repeat=2):
                    by = [way for way in ways if (one, other) in steps_on(way)]
                    self.is_one(plan, kind, way_by(plan, kind, one, other), by)
                    self.assertEqual(not by, (one, other) not in want)

    def is_one(self, plan, kind, got, ways):
        """The answer is one of these ways, or None if there is none."""
        if ways:
            self.assertIn(got, ways)
            self.assert_exactly(got, ways[ways.index(got)])
            self.assertTrue(told_way(plan, kind, got) and told_straight(plan, kind, got))
        else:
            self.assertIsNone(got)

    def test_inside_rings_of_three(self):
        for plan in SMALL + TWELVE:
            always = {k for ring in rings_of_three(plan) for k in inside_of(plan, ring)}
            for kind in KINDS:
                without = {k for k in range(len(plan)) if way_through(plan, kind, k) is None}
                self.assertEqual(without, always)

    def test_edges(self):
        for kind in KINDS:
            self.answers((), followings, ONE, kind)
            self.answers((0,), way_through, ONE, kind, 0)
            self.answers(None, way_by, ONE, kind, 0, 0)
            self.answers(None, way_through, TUCKED, kind, 1)
            self.answers(None, way_by, TUCKED, kind, 0, 1)
        self.answers(((0, 1),), followings, TWO, "level")
        self.answers((), followings, TWO, "upright")
        self.answers(None, way_by, TWO, "level", 1, 0)
        self.answers(((0, 2), (0, 3), (0, 4), (2, 1), (3, 1), (4, 1)), followings, BARS, "upright")
        self.answers((2, 3, 4), way_through, BARS, "level", 3)

    def test_wrong(self):
        pictures = not_pictures(5)
        wrong = {"plan": NOT_PLANS, "kind": NOT_KINDS, "picture": pictures, "one": pictures, "other": pictures}
        self.refuses(followings, {"plan": FIVE, "kind": "level"}, wrong)
        self.refuses(way_through, {"plan": FIVE, "kind": "level", "picture": 0}, wrong)
        self.refuses(way_by, {"plan": FIVE, "kind": "level", "one": 0, "other": 1}, wrong)


class TheClass(HungTest):
    def test_attributes(self):
        for plan in SMALL + TWELVE:
            for kind in KINDS:
                ways = Ways(plan=plan, kind=kind)
                self.assert_exactly(ways.straight, straight_ways(plan, kind))
                self.assert_exactly(ways.many, len(plan))
                self.assertEqual(len(ways), len(ways.straight))

    def test_in(self):
        for plan in SMALL:
            for kind in KINDS:
                ways = Ways(plan, kind)
                for size in range(len(plan) + 1):
                    for row in itertools.permutations(range(len(plan)), size):
                        self.assertIs(row in ways, is_way(plan, kind, row))
        ways = Ways(FIVE, "level")
        for thing in NOT_WAYS + (ways, (ways,), ("level", (0, 1)), (0, 1.0), 10 ** 50):
            self.assertIs(thing in ways, False)
        self.assertIs((0, 1, 2) in ways, True)

    def test_methods(self):
        for plan in SMALL + TWELVE[:3]:
            pictures = range(len(plan))
            for kind in KINDS:
                ways = Ways(plan, kind)
                for k in pictures:
                    self.answers(way_through(plan, kind, k), ways.through, k)
                for one, other in itertools.product(pictures, repeat=2):
                    self.answers(way_by(plan, kind, one, other), ways.by, one, other)
                for table in tables_of(len(plan), 2):
                    self.answers(shortest_way(plan, kind, table), ways.shortest, table)
                for lot in lots_of(plan)[:200]:
                    self.answers(holds_way(plan, kind, lot), ways.holds, lot)

    def test_wrong(self):
        self.refuses(Ways, {"plan": FIVE, "kind": "level"}, {"plan": NOT_PLANS, "kind": NOT_KINDS})
        ways = Ways(FIVE, "level")
        straight = ways.straight
        pictures = not_pictures(5)
        self.refuses(ways.through, {"picture": 4}, {"picture": pictures})
        self.refuses(ways.by, {"one": 0, "other": 4}, {"one": pictures, "other": pictures})
        self.refuses(ways.shortest, {"table": TOLD}, {"table": not_tables(5)})
        self.refuses(ways.holds, {"lot": (0, 1)}, {"lot": not_lots(5)})
        self.assert_exactly((ways.straight, ways.many), (straight, 5))


if __name__ == "__main__":
    unittest.main()
