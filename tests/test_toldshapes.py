"""Points 67 and 68: shapes for a way, for a border, for a point; and where two pictures can hang."""

import itertools
import random
import unittest
from fractions import Fraction

from hungwall.borders import borders_of
from hungwall.fates import fates_of
from hungwall.followings import followings
from hungwall.hanging import hung
from hungwall.placings import placings_of
from hungwall.points import points_in
from hungwall.rings import inside_of, rings_of_four
from hungwall.straightways import all_ways, straight_ways
from hungwall.toldshapes import point_shapes, shapes_by, shapes_for
from hungwall.turnings import turned
from hungwall.walls import is_hanging
from tests.helping import (
    BARS, FIVE, FOUR, NAMED, NOT_KINDS, NOT_PLANS, ONE, TUCKED, TWO, HungTest, grown_plans, kinds_of_shapes, mixed_plans,
    not_pictures, pile, quotient_of, spun_plans,
)
from tests.judge import common, is_sized, number, pair, spans
from tests.test_fates import DEEP, SIX

KINDS = ("level", "upright")
SMALL = NAMED + (SIX, DEEP) + tuple(grown_plans(counts=(3, 5), seeds=range(2)) + spun_plans((6, 7), range(3)))
TWELVE = tuple(grown_plans(counts=(9, 12), seeds=range(1)) + mixed_plans((8, 12), range(1))) + (pile(12),)
PLANS = SMALL + TWELVE
SEVEN = SMALL + tuple(spun_plans((5, 6, 7), range(3, 25)))


def met_half_way(wall, kind):
    """The pictures that the level line at half height, or the upright line at half width, meets, in their sequence."""
    along = number(wall[0]) / 2 if kind == "level" else Fraction(1, 2)
    met = []
    for picture, box in enumerate(wall[1]):
        across, upward = spans(box)
        if kind == "level" and upward[0] < along < upward[1]:
            met.append((across[0], picture))
        if kind == "upright" and across[0] < along < across[1]:
            met.append((-upward[0], picture))
        if not is_sized(box):
            continue
        if along in (upward if kind == "level" else across):
            return None
    return tuple(picture for _, picture in sorted(met))


def hangs(plan, shapes, kind, one, other):
    """Whether one is left of, or above, other with a border."""
    how = "left" if kind == "level" else "above"
    return any(border[:3] == (one, other, how) for border in borders_of(hung(plan, shapes)))


class ForWays(HungTest):
    def test_all(self):
        for plan in PLANS:
            many = len(plan)
            for kind in KINDS:
                for way in straight_ways(plan, kind)[:12]:
                    worth = Fraction(16 * many * len(way) ** 2)
                    worth = pair(worth if kind == "level" else 1 / worth)
                    want = tuple(worth if picture in way else (1, 1) for picture in range(many))
                    self.answers(want, shapes_for, plan, kind, way)
                    self.assert_exactly(shapes_for(plan=plan, kind=kind, way=way), want)
                    self.assertEqual(met_half_way(hung(plan, want), kind), way)

    def test_edges(self):
        self.answers(((16, 1),), shapes_for, ONE, "level", (0,))
        self.answers(((1, 16),), shapes_for, ONE, "upright", (0,))
        self.answers(((128, 1), (128, 1)), shapes_for, TWO, "level", (0, 1))
        self.answers(((1, 1), (1, 32)), shapes_for, TWO, "upright", (1,))

    def test_wrong(self):
        ways = (
            None, True, 0, "", "way", (), [], [0, 4, 2], (0,), (0, 2), (0, 1, 2), (3, 0, 1), (0, 4, 2, 2), (0, True), (False, 1),
            (-4, 0, 1), (0, 5), (1, 0), ((0, 1),), (2, 4, 0), (0, 3), (1, 4, 3), (0, [4], 2), ("0", "1"),
        )
        good = {"plan": FIVE, "kind": "level", "way": (0, 4, 2)}
        self.refuses(shapes_for, good, {"plan": NOT_PLANS, "kind": NOT_KINDS, "way": ways})
        for plan, kind in itertools.product(SMALL, KINDS):
            straight = straight_ways(plan, kind)
            for way in list(all_ways(plan, kind))[:40]:
                if way not in straight:
                    self.not_usable("way", shapes_for, plan, kind, way)


class ByBorders(HungTest):
    def test_all(self):
        for plan in PLANS:
            for kind in KINDS:
                pairs = followings(plan, kind)
                for one, other in itertools.product(range(len(plan)), repeat=2):
                    shapes = shapes_by(plan, kind, one, other)
                    self.assert_exactly(shapes_by(plan=plan, kind=kind, one=one, other=other), shapes)
                    if (one, other) not in pairs:
                        self.assertIsNone(shapes)
                        continue
                    self.answers(shapes, shapes_by, plan, kind, one, other)
                    self.assertTrue(max(len(str(part)) for shape in shapes for part in shape) <= 300)
                    self.assertTrue(hangs(plan, shapes, kind, one, other))

    def test_edges(self):
        for kind in KINDS:
            self.answers(None, shapes_by, ONE, kind, 0, 0)
            self.answers(None, shapes_by, FIVE, kind, 4, 4)
            # They never meet; one is always a point.
            self.answers(None, shapes_by, FOUR, kind, 1, 3)
            self.answers(None, shapes_by, BARS, kind, 2, 4)
            self.answers(None, shapes_by, TUCKED, kind, 0, 1)
            self.answers(None, shapes_by, TUCKED, kind, 1, 0)
        self.answers(None, shapes_by, TWO, "upright", 0, 1)
        self.answers(None, shapes_by, TWO, "level", 1, 0)
        # Neighbours by some shapes alone.
        shapes = shapes_by(FOUR, "level", 0, 2)
        self.assertTrue(hangs(FOUR, shapes, "level", 0, 2))
        self.assertFalse(hangs(FOUR, ((1, 1),) * 4, "level", 0, 2))
        self.assertTrue(hangs(FOUR, shapes_by(FOUR, "upright", 0, 2), "upright", 0, 2))

    def test_wrong(self):
        pictures = not_pictures(5)
        wrong = {"plan": NOT_PLANS, "kind": NOT_KINDS, "one": pictures, "other": pictures}
        self.refuses(shapes_by, {"plan": FIVE, "kind": "upright", "one": 0, "other": 4}, wrong)


class Points(HungTest):
    def test_all(self):
        seen = 0
        for plan in SEVEN:
            for picture, fate in enumerate(fates_of(plan)):
                shapes = point_shapes(plan, picture)
                self.assert_exactly(point_shapes(plan=plan, picture=picture), shapes)
                if fate == "never":
                    self.assertIsNone(shapes)
                    continue
                self.answers(shapes, point_shapes, plan, picture)
                self.assertLessEqual(max(len(str(part)) for shape in shapes for part in shape), 300)
                self.assertIn(picture, points_in(plan, shapes))
                seen += fate == "both"
        self.assertGreater(seen, 50)

    def test_meets(self):
        # By (G5) the boxes of a ring of four pictures with size around the point have a common point.
        for plan in SEVEN:
            for picture, fate in enumerate(fates_of(plan)):
                if fate == "both":
                    height, boxes = hung(plan, point_shapes(plan, picture))
                    self.assertTrue(is_hanging((height, boxes)))
                    rings = [ring for ring in rings_of_four(plan) if picture in inside_of(plan, ring) and min(ring) >= 0]
                    self.assertTrue(any(self.common_point([boxes[k] for k in ring]) for ring in rings))

    def common_point(self, boxes):
        pairs = itertools.combinations(boxes, 2)
        return all(is_sized(box) for box in boxes) and all(common(one, other) is not None for one, other in pairs)

    def test_edges(self):
        self.answers(None, point_shapes, ONE, 0)
        self.answers(None, point_shapes, TUCKED, 0)
        self.answers(None, point_shapes, BARS, 3)
        self.assertIn(1, points_in(TUCKED, point_shapes(TUCKED, 1)))
        self.assertIn(5, points_in(DEEP, point_shapes(DEEP, 5)))
        for picture in (4, 5):
            self.assertEqual(points_in(SIX, point_shapes(SIX, picture)), (4, 5))

    def test_wrong(self):
        wrong = {"plan": NOT_PLANS, "picture": not_pictures(5)}
        self.refuses(point_shapes, {"plan": FIVE, "picture": 4}, wrong)


class Placings(HungTest):
    def test_all(self):
        source = random.Random(4)
        for plan in PLANS:
            for one, other in itertools.permutations(range(len(plan)), 2):
                want = {
                    "left": (one, other) in followings(plan, "level"), "right": (other, one) in followings(plan, "level"),
                    "above": (one, other) in followings(plan, "upright"),
                    "below": (other, one) in followings(plan, "upright"),
                }
                got = tuple(word for word in ("above", "below", "left", "right") if want[word])
                self.answers(got, placings_of, plan, one, other)
                self.assert_exactly(placings_of(plan=plan, one=one, other=other), got)
            for shapes in kinds_of_shapes(len(plan), 3) + [tuple(quotient_of(source, 2) for _ in plan)]:
                for one, other, how, _ in borders_of(hung(plan, shapes)):
                    if min(one, other) >= 0:
                        self.assertIn(how, placings_of(plan, one, other))

    def test_turned(self):
        back = {"above": "below", "below": "above", "left": "right", "right": "left"}
        turn = {"left": "above", "above": "right", "right": "below", "below": "left"}
        for plan in SMALL:
            for one, other in itertools.permutations(range(len(plan)), 2):
                words = placings_of(plan, one, other)
                self.assertEqual(placings_of(plan, other, one), tuple(sorted(back[word] for word in words)))
                self.assertEqual(placings_of(turned(plan), one, other), tuple(sorted(turn[word] for word in words)))
                if other not in plan[one]:
                    self.assertEqual(words, ())

    def test_edges(self):
        self.answers((), placings_of, FOUR, 1, 3)
        self.answers((), placings_of, TUCKED, 0, 1)
        self.answers((), placings_of, TUCKED, 1, 0)
        self.answers(("above", "left"), placings_of, FOUR, 0, 2)
        self.answers(("below", "right"), placings_of, FOUR, 2, 0)
        self.answers(("left",), placings_of, TWO, 0, 1)
        self.answers((), placings_of, BARS, 0, 1)

    def test_wrong(self):
        good = {"plan": FIVE, "one": 0, "other": 4}
        self.refuses(placings_of, good, {"plan": NOT_PLANS, "one": not_pictures(5), "other": not_pictures(5) + (0,)})
        self.not_usable("other", placings_of, ONE, 0, 0)
        self.not_usable("one", placings_of, FIVE, 5, 5)


if __name__ == "__main__":
    unittest.main()
