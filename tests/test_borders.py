"""Points 55, 56 and 57: borders, crossings, and plans read back from fillings."""

import itertools
import unittest

from hungwall.borders import borders_of
from hungwall.boxjoins import joined_boxes, makes_box
from hungwall.crossings import crossings_of
from hungwall.growing import can_join, joined
from hungwall.hanging import hung
from hungwall.planchecker import is_plan
from hungwall.readbacks import plan_in
from hungwall.sketches import read_sketch
from hungwall.ties import are_tied
from hungwall.walls import has_points, shapes_in
from tests.fillings import FILLINGS, HALF, NOT_WALLS, ONE_BOX, POINT_BOX, POINTED, filling_of
from tests.helping import (
    E, FIVE, FOUR, N, NAMED, ONE, S, SIDES, TWO, W, HungTest, grown_plans, kinds_of_shapes, mixed_plans, pile,
)
from tests.judge import common, is_sized, meets_side, number, pair, spans

WALLS = FILLINGS + POINTED + [ONE_BOX, HALF, POINT_BOX]
PLANS = NAMED + tuple(grown_plans(counts=(3, 5, 9, 12), seeds=range(3)) + mixed_plans((4, 6, 9, 12), range(4)))
PLANS += (pile(12),)
SLANTS = ("falling", "rising")
NOT_SLANTS = (None, True, 0, "", "Falling", "falling ", "level", ("falling",), ["rising"])
GRID = ((1, 1), (
    ((0, 1), (1, 2), (1, 2), (1, 2)), ((1, 2), (1, 2), (1, 2), (1, 2)), ((1, 2), (0, 1), (1, 2), (1, 2)),
    ((0, 1), (0, 1), (1, 2), (1, 2)),
))


def told_borders(wall):
    """The borders, by the common points of two boxes."""
    height, boxes = wall
    sized = [k for k, box in enumerate(boxes) if is_sized(box)]
    found = []
    for one, other in itertools.permutations(sized, 2):
        lengths = common(boxes[one], boxes[other])
        if lengths and max(lengths) > 0:
            (left, _), (_, top) = spans(boxes[one])
            how = "left" if lengths[0] == 0 else "above"
            first = left < spans(boxes[other])[0][0] if how == "left" else top > spans(boxes[other])[1][1]
            if first:
                found.append((one, other, how, pair(max(lengths))))
    for k in sized:
        for side in SIDES:
            if meets_side(boxes[k], height, side):
                how, length = ("left", boxes[k][3]) if side in (W, E) else ("above", boxes[k][2])
                found.append(((side, k) if side in (W, N) else (k, side)) + (how, length))
    return tuple(sorted(found))


def told_crossings(wall):
    """The crossings, by trying all boxes that have a point as a corner."""
    height, boxes = wall
    sized = [k for k, box in enumerate(boxes) if is_sized(box)]
    corners = {}
    for k in sized:
        across, upward = spans(boxes[k])
        for at, x, y in ((0, 1, 0), (1, 0, 0), (2, 0, 1), (3, 1, 1)):
            corners.setdefault((across[x], upward[y]), {})[at] = k
    found = [tuple(four[at] for at in range(4)) for four in corners.values() if len(four) == 4]
    return tuple(sorted(found))


def told_circle(wall, k, slant):
    """The set of the places in the circle of a picture of a filling."""
    found = {one for one, other, _, _ in told_borders(wall) if other == k}
    found |= {other for one, other, _, _ in told_borders(wall) if one == k}
    at = 0 if slant == "falling" else 1
    for four in told_crossings(wall):
        tied = (four[at], four[at + 2])
        if k in tied:
            found.add(tied[1 - tied.index(k)])
    return found


class Borders(HungTest):
    def test_all(self):
        for wall in WALLS:
            got = borders_of(wall)
            self.answers(told_borders(wall), borders_of, wall)
            self.is_set(got)

    def test_sums(self):
        # Round a box with size the borders on each side add up to the side.
        for wall in WALLS:
            for k, box in enumerate(wall[1]):
                for at, how, size in ((0, "left", 3), (1, "left", 3), (0, "above", 2), (1, "above", 2)):
                    parts = [number(part[3]) for part in borders_of(wall) if part[at] == k and part[2] == how]
                    self.assertEqual(sum(parts), number(box[size]))

    def test_of_plans(self):
        for plan in PLANS:
            for shapes in kinds_of_shapes(len(plan), 1):
                for one, other, _, _ in borders_of(hung(plan, shapes)):
                    self.assertIs(are_tied(plan, one, other), True)

    def test_edges(self):
        unit = (1, 1)
        sides = ((W, 0, "left", unit), (N, 0, "above", unit), (0, E, "left", unit), (0, S, "above", unit))
        self.answers(sides, borders_of, ONE_BOX)
        moved = tuple(tuple(1 if part == 0 else part for part in border) for border in sides)
        self.answers(moved, borders_of, POINT_BOX)
        # Two boxes that touch in a corner alone have none.
        pairs = {border[:2] for border in borders_of(GRID)}
        self.assertFalse({(0, 2), (2, 0), (1, 3), (3, 1)} & pairs)
        self.assertLessEqual({(0, 1), (1, 2), (0, 3), (3, 2)}, pairs)
        self.assertEqual(len(pairs), 12)

    def test_wrong(self):
        for call in (borders_of, crossings_of):
            self.refuses(call, {"wall": HALF}, {"wall": NOT_WALLS})


class Crossings(HungTest):
    def test_all(self):
        seen = 0
        for wall in WALLS:
            self.answers(told_crossings(wall), crossings_of, wall)
            seen += len(crossings_of(wall))
        self.assertGreater(seen, 20)

    def test_edges(self):
        for wall in (ONE_BOX, HALF, POINT_BOX):
            self.answers((), crossings_of, wall)
        self.answers(((0, 1, 2, 3),), crossings_of, GRID)
        # A point at the crossing has no part in it.
        crossed = hung(FIVE, ((1, 1),) * 5)
        self.answers(((0, 1, 2, 3),), crossings_of, crossed)
        self.answers((), crossings_of, hung(FIVE, ((2, 1),) + ((1, 1),) * 4))


class ReadBack(HungTest):
    def test_fillings(self):
        for wall in FILLINGS:
            crossings = crossings_of(wall)
            plans = [plan_in(wall, slant) for slant in SLANTS]
            self.assertEqual(plans[0] == plans[1], not crossings)
            self.assertEqual(len(borders_of(wall)) + len(crossings), 3 * len(wall[1]) + 1)
            for plan, slant in zip(plans, SLANTS):
                self.answers(plan, plan_in, wall, slant)
                self.assert_exactly(plan_in(filling=wall, slant=slant), plan)
                self.assertIs(is_plan(plan), True)
                for k, circle in enumerate(plan):
                    self.assertEqual(set(circle), told_circle(wall, k, slant))
                self.assertEqual(hung(plan, shapes_in(wall)), wall)

    def test_plans(self):
        seen = 0
        for plan in PLANS:
            for shapes in kinds_of_shapes(len(plan), 2):
                wall = hung(plan, shapes)
                if has_points(wall):
                    for slant in SLANTS:
                        self.not_usable("filling", plan_in, wall, slant)
                    continue
                for slant in SLANTS:
                    found = plan_in(wall, slant)
                    self.assertEqual(hung(found, shapes), wall)
                    if not crossings_of(wall):
                        self.assertEqual(found, plan)
                        seen += 1
        self.assertGreater(seen, 30)

    def test_like_sketches(self):
        half, third = (1, 2), (1, 3)
        lefts, floors = ((0, 1), third, (2, 3)), (half, (0, 1))
        wall = ((1, 1), tuple((left, floor, third, half) for floor in floors for left in lefts))
        for slant in SLANTS:
            self.answers(read_sketch(("abc", "def"), slant), plan_in, wall, slant)
        self.answers(ONE, plan_in, ONE_BOX, "falling")
        self.answers(TWO, plan_in, HALF, "rising")
        self.answers(FOUR, plan_in, GRID, "falling")
        rising = ((W, N, 1, 3), (N, E, 2, 3, 0), (E, S, 3, 1), (W, 0, 1, 2, S))
        self.answers(rising, plan_in, GRID, "rising")
        self.assertEqual(rising, read_sketch(("ab", "dc"), "rising"))

    def test_joined(self):
        seen = 0
        for wall in FILLINGS:
            for one, other in itertools.permutations(range(len(wall[1])), 2):
                if makes_box(wall, one, other) is not None:
                    seen += 1
                    new = joined_boxes(wall, one, other)
                    for slant in SLANTS:
                        plan = plan_in(wall, slant)
                        self.assertIs(can_join(plan, one, other), True)
                        self.assertEqual(joined(plan, one, other), plan_in(new, slant))
        self.assertGreater(seen, 50)

    def test_twelve(self):
        for seed in range(8):
            wall = filling_of(12, 1000 + seed)
            for slant in SLANTS:
                self.assertEqual(hung(plan_in(wall, slant), shapes_in(wall)), wall)

    def test_wrong(self):
        wrong = {"filling": NOT_WALLS + (POINT_BOX,), "slant": NOT_SLANTS}
        self.refuses(plan_in, {"filling": HALF, "slant": "falling"}, wrong)


if __name__ == "__main__":
    unittest.main()
