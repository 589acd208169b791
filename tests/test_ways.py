"""Points 33, 34 and 35: ways, straight ones, and one of two ways."""

import inspect
import itertools
import unittest

from hungwall.emptying import emptied
from hungwall.growing import can_join, joined
from hungwall.insides import inner_plan, shut_plan
from hungwall.rings import inside_of, rings_of_four, rings_of_three
from hungwall.straightways import all_ways, straight_ways, straightened
from hungwall.turnings import flipped, mirrored, turned
from hungwall.twoways import holds_way, two_ways
from hungwall.waykinds import is_straight, is_way
from tests.helping import (
    BARS, E, FIVE, FOUR, N, NAMED, NOT_KINDS, NOT_PLANS, ONE, S, TUCKED, TWO, W, HungTest, grown_plan, grown_plans,
    lots_of, not_lots, pile,
)
from tests.test_ties import told_tied

KINDS = ("level", "upright")
ENDS = {"level": (W, E), "upright": (N, S)}
SMALL = NAMED + tuple(grown_plans(counts=(1, 2, 3, 4, 5), seeds=range(6)))
NINE = tuple(grown_plans(counts=(6, 7, 9), seeds=range(4))) + (pile(9), turned(pile(9)))
TWELVE = tuple(grown_plans(counts=(11, 12), seeds=range(4))) + (pile(12), turned(pile(12)))
NOT_WAYS = (
    None, True, 0, "", "0", (), [], [0, 1], (True,), (False, 1), (0, True), ("0", 1), (0, None), (0, (1,)), (0, [1]),
    (W, 0, 1), (0, 1, E), (0, 5), (5,), (0, 0, 1), (0, 1, 0, 1), (0,), (1, 0), (0, 2), (4,), ((0, 1),),
)


def told_way(plan, kind, way):
    """Whether a tuple of different pictures is a way of this kind."""
    first, last = ENDS[kind]
    places = (first, *way, last)
    return len(way) > 0 and all(told_tied(plan, one, other) for one, other in zip(places, places[1:]))


def told_straight(plan, kind, way):
    """Whether a way is straight."""
    first, last = ENDS[kind]
    places = (first, *way, last)
    pairs = itertools.combinations(range(len(places)), 2)
    return not any(told_tied(plan, places[a], places[b]) for a, b in pairs if b > a + 1)


def told_ways(plan, kind):
    """All ways of this kind, ascending, by trying all tuples of different pictures."""
    pictures = range(len(plan))
    rows = [row for size in pictures for row in itertools.permutations(pictures, size + 1)]
    return sorted(row for row in rows if told_way(plan, kind, row))


def others_than(plan, lot):
    """The lot of the pictures that are not in a lot."""
    return tuple(k for k in range(len(plan)) if k not in lot)


class WayKinds(HungTest):
    def test_all(self):
        for plan in SMALL:
            pictures = range(len(plan))
            for kind in KINDS:
                for row in [row for size in range(len(plan) + 1) for row in itertools.permutations(pictures, size)]:
                    way = told_way(plan, kind, row)
                    self.assert_exactly(is_way(plan, kind, row), way)
                    self.assert_exactly(is_straight(plan, kind, row), way and told_straight(plan, kind, row))

    def test_one_picture_too_many(self):
        for plan in SMALL + NINE[:4]:
            for kind in KINDS:
                for way in straight_ways(plan, kind):
                    self.answers(True, is_way, plan, kind, way)
                    self.answers(True, is_straight, plan, kind, way)
                    for at, k in itertools.product(range(len(way) + 1), range(len(plan))):
                        longer = way[:at] + (k,) + way[at:]
                        self.assert_exactly(is_straight(plan, kind, longer), False)
                        fits = k not in way and told_way(plan, kind, longer)
                        self.assert_exactly(is_way(plan, kind, longer), fits)

    def test_any_value(self):
        for call in (is_way, is_straight):
            for thing in NOT_WAYS:
                self.answers(False, call, FIVE, "level", thing)
            self.answers(True, call, FIVE, "level", (0, 4, 2))
            self.answers(True, call, FIVE, "upright", (0, 3))
            self.answers(True, call, ONE, "upright", (0,))
        self.answers(False, is_straight, FIVE, "level", (0, 1, 2))

    def test_forty(self):
        plan = pile(40)
        down = tuple(range(40))
        for call in (is_way, is_straight):
            self.answers(True, call, plan, "upright", down)
            self.answers(False, call, plan, "upright", down[::-1])
            self.answers(False, call, plan, "upright", down[:-1])
            self.answers(False, call, plan, "upright", down[:20] + down[21:])
            self.answers(True, call, plan, "level", (39,))
        self.answers(True, is_way, plan, "level", down)
        self.answers(False, is_straight, plan, "level", (3, 4))

    def test_wrong(self):
        for call in (is_way, is_straight):
            good = {"plan": FIVE, "kind": "level", "thing": (0, 1)}
            self.refuses(call, good, {"plan": NOT_PLANS, "kind": NOT_KINDS})


class Straight(HungTest):
    def test_all_ways(self):
        for plan in SMALL:
            for kind in KINDS:
                ways = told_ways(plan, kind)
                self.assert_exactly(list(all_ways(plan, kind)), ways)
                straight = tuple(way for way in ways if told_straight(plan, kind, way))
                self.answers(straight, straight_ways, plan, kind)

    def test_nine_and_twelve(self):
        for plan in NINE:
            for kind in KINDS:
                ways = list(all_ways(plan, kind))
                self.assertEqual(ways, sorted(set(ways)))
                self.assertTrue(all(told_way(plan, kind, way) for way in ways))
                straight = tuple(way for way in ways if told_straight(plan, kind, way))
                self.answers(straight, straight_ways, plan, kind)
        for plan in TWELVE:
            for kind in KINDS:
                ways = straight_ways(plan, kind)
                self.is_set(ways)
                self.assertTrue(ways and all(is_straight(plan, kind, way) for way in ways))

    def test_generator(self):
        self.assertTrue(inspect.isgenerator(all_ways(FOUR, "level")))
        # Errors come when the first way is asked for.
        for told, word in (((3, "level"), "plan"), ((FOUR, "across"), "kind"), ((FOUR, None), "kind")):
            ways = all_ways(*told)
            self.not_usable(word, lambda: next(ways))
        ways = all_ways(plan=TWO, kind="upright")
        self.assert_exactly([next(ways), next(ways)], [(0,), (0, 1)])
        self.assert_exactly(list(ways), [(1,), (1, 0)])
        self.assertEqual(list(ways), [])

    def test_edges(self):
        for kind in KINDS:
            self.answers(((0,),), straight_ways, ONE, kind)
            self.answers(((0,),), straight_ways, TUCKED, kind)
            self.assert_exactly(list(all_ways(ONE, kind)), [(0,)])
        self.answers(((0, 1),), straight_ways, TWO, "level")
        self.answers(((0,), (1,)), straight_ways, TWO, "upright")
        self.answers(((0, 2, 1), (0, 3, 1), (0, 4, 1)), straight_ways, BARS, "upright")

    def test_straightened(self):
        for plan in SMALL + NINE[:8]:
            for kind in KINDS:
                first, last = ENDS[kind]
                for way in list(all_ways(plan, kind))[:80]:
                    want = [[k for k in way if told_tied(plan, k, first)][-1]]
                    while not told_tied(plan, want[-1], last):
                        want.append([k for k in way if told_tied(plan, k, want[-1])][-1])
                    self.answers(tuple(want), straightened, plan, kind, way)
                    self.assertTrue(told_straight(plan, kind, tuple(want)))
                    self.assertTrue(told_way(plan, kind, tuple(want)))
                    self.assertEqual([k for k in way if k in want], want)
                    if told_straight(plan, kind, way):
                        self.assertEqual(tuple(want), way)

    def test_wrong(self):
        wrong = {"plan": NOT_PLANS, "kind": NOT_KINDS}
        self.refuses(straight_ways, {"plan": FIVE, "kind": "upright"}, wrong)

        def listed(plan, kind):
            return list(all_ways(plan, kind))

        self.refuses(listed, {"plan": FIVE, "kind": "upright"}, wrong)
        good = {"plan": FIVE, "kind": "level", "way": (0, 1)}
        self.refuses(straightened, good, {"plan": NOT_PLANS, "kind": NOT_KINDS, "way": NOT_WAYS})
        self.not_usable("way", straightened, FIVE, "upright", (0, 1))


class TwoWays(HungTest):
    def test_all_lots(self):
        for plan in SMALL + NINE[:3]:
            ways = {kind: [set(way) for way in straight_ways(plan, kind)] for kind in KINDS}
            for lot in lots_of(plan):
                holds = {kind: any(way <= set(lot) for way in ways[kind]) for kind in KINDS}
                for kind in KINDS:
                    self.answers(holds[kind], holds_way, plan, kind, lot)
                others = others_than(plan, lot)
                self.assertNotEqual(holds["upright"], holds_way(plan, "level", others))
                kind, way = two_ways(plan, lot)
                self.assertEqual(kind, "upright" if holds["upright"] else "level")
                self.assertTrue(told_way(plan, kind, way))
                self.assertLessEqual(set(way), set(lot if kind == "upright" else others))
                self.answers((kind, way), two_ways, plan, lot)

    def test_none_and_all(self):
        for plan in SMALL + NINE + TWELVE:
            lot = tuple(range(len(plan)))
            for kind in KINDS:
                self.answers(False, holds_way, plan, kind, ())
                self.answers(True, holds_way, plan, kind, lot)
            self.assertEqual(two_ways(plan, ())[0], "level")
            self.assertEqual(two_ways(plan, lot)[0], "upright")
        self.answers(("level", (0,)), two_ways, ONE, ())
        self.answers(("upright", (0,)), two_ways, ONE, (0,))

    def test_least_lots(self):
        # The lots that hold a level way, and no lesser one, are those of the straight ways (G3).
        for plan in SMALL:
            lots = lots_of(plan)
            for kind, other in (KINDS, KINDS[::-1]):
                holding = [set(lot) for lot in lots if holds_way(plan, kind, lot)]
                least = [lot for lot in holding if not any(less < lot for less in holding)]
                straight = [set(way) for way in straight_ways(plan, kind)]
                self.assertEqual(len(least), len(straight))
                self.assertTrue(all(lot in least for lot in straight))
                meeting = [set(lot) for lot in lots if all(way & set(lot) for way in straight)]
                least = [lot for lot in meeting if not any(less < lot for less in meeting)]
                across = [set(way) for way in straight_ways(plan, other)]
                self.assertEqual(len(least), len(across))
                self.assertTrue(all(lot in least for lot in across))

    def test_wrong(self):
        good = {"plan": FIVE, "kind": "level", "lot": (0, 4)}
        self.refuses(holds_way, good, {"plan": NOT_PLANS, "kind": NOT_KINDS, "lot": not_lots(5)})
        self.refuses(two_ways, {"plan": FIVE, "lot": ()}, {"plan": NOT_PLANS, "lot": not_lots(5)})


class Consequences(HungTest):
    """What point 42 says of these functions."""

    def test_turned(self):
        for plan in SMALL + NINE:
            level, upright = (set(straight_ways(plan, kind)) for kind in KINDS)
            level_back, upright_back = ({way[::-1] for way in ways} for ways in (level, upright))
            self.assertEqual(set(straight_ways(turned(plan), "upright")), level)
            self.assertEqual(set(straight_ways(turned(plan), "level")), upright_back)
            self.assertEqual(set(straight_ways(mirrored(plan), "level")), level_back)
            self.assertEqual(set(straight_ways(mirrored(plan), "upright")), upright)
            self.assertEqual(set(straight_ways(flipped(plan), "level")), level)
            self.assertEqual(set(straight_ways(flipped(plan), "upright")), upright_back)

    def test_turned_all_ways(self):
        for plan in SMALL:
            level, upright = (set(all_ways(plan, kind)) for kind in KINDS)
            self.assertEqual(set(all_ways(turned(plan), "upright")), level)
            self.assertEqual(set(all_ways(turned(plan), "level")), {way[::-1] for way in upright})
            self.assertEqual(set(all_ways(mirrored(plan), "level")), {way[::-1] for way in level})
            self.assertEqual(set(all_ways(mirrored(plan), "upright")), upright)

    def test_emptied(self):
        for plan in SMALL + NINE + TWELVE:
            left, kept = emptied(plan)
            for kind in KINDS:
                ways = tuple(tuple(kept[k] for k in way) for way in straight_ways(left, kind))
                self.assertEqual(ways, straight_ways(plan, kind))

    def test_inside_a_ring_of_three(self):
        for plan in SMALL + NINE + TWELVE:
            always = {k for ring in rings_of_three(plan) for k in inside_of(plan, ring)}
            for kind in KINDS:
                on_ways = {k for way in straight_ways(plan, kind) for k in way}
                self.assertEqual(on_ways, set(range(len(plan))) - always)

    def test_joined(self):
        for plan in SMALL:
            for one, other in itertools.combinations(range(len(plan)), 2):
                if can_join(plan, one, other):
                    new = joined(plan, one, other)
                    for lot in lots_of(new):
                        old = {k + (k >= other) for k in lot} | ({one, other} if one in lot else set())
                        for kind in KINDS:
                            held = holds_way(plan, kind, tuple(sorted(old)))
                            self.assertEqual(holds_way(new, kind, lot), held)

    def test_rings_of_four(self):
        for plan in SMALL + NINE:
            for ring in rings_of_four(plan):
                shut, kept = shut_plan(plan, ring)
                inside = inside_of(plan, ring)
                for kind in KINDS:
                    for way in straight_ways(plan, kind):
                        self.goes_through_ring(plan, kind, way, ring, inside, shut, kept)

    def goes_through_ring(self, plan, kind, way, ring, inside, shut, kept):
        first, last = ENDS[kind]
        places = (first, *way, last)
        within = [at for at, place in enumerate(places) if place in inside]
        if not within:
            return
        self.assertEqual(within, list(range(within[0], within[-1] + 1)))
        ahead, behind = places[within[0] - 1], places[within[-1] + 1]
        self.assertEqual((ring.index(ahead) - ring.index(behind)) % 4, 2)
        row = [kept.index(k) for k in way if k not in inside]
        row.insert(within[0] - 1, len(kept))
        self.assertTrue(is_straight(shut, kind, tuple(row)))
        # Any straight level way of the inner plan, the ring begun ahead, may stand there instead.
        at = ring.index(ahead)
        inner, pictures = inner_plan(plan, ring[at:] + ring[:at])
        for other in straight_ways(inner, "level"):
            new = [pictures[k] for k in other]
            self.assertTrue(is_straight(plan, kind, way[:within[0] - 1] + tuple(new) + way[within[-1]:]))


if __name__ == "__main__":
    unittest.main()
