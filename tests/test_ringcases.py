"""Points 78 to 80: rings of four shut and laid by the case, ring trees; and what points 11 and 82 say of these."""

import unittest
from fractions import Fraction

from hungwall.hanging import hung
from hungwall.insides import inner_plan, shut_plan
from hungwall.layings import hung_by_ring, laid_boxes
from hungwall.leastwidths import height_of
from hungwall.quotients import times
from hungwall.ringcases import ring_case, ring_heights
from hungwall.rings import inside_of, rings_of_four
from hungwall.ringtrees import hung_by_tree, ring_tree
from hungwall.toldshapes import point_shapes
from hungwall.turnings import turned
from hungwall.walls import shapes_in
from tests.fillings import FILLINGS, HALF, NOT_WALLS, ONE_BOX, POINT_BOX, POINTED
from tests.helping import (
    BARS, FIVE, FOUR, N, NAMED, NOT_PLANS, ONE, S, TUCKED, TWO, W, E, HungTest, grown_plans, kinds_of_shapes, mixed_plans,
    not_pictures, not_shapes, pile, spun_plans,
)
from tests.judge import is_sized, is_told_wall, number, pair, pairs, spans
from tests.test_fates import DEEP, SIX, all_turns

PLANS = NAMED + (SIX, DEEP, pile(5)) + tuple(
    grown_plans(counts=(3, 4, 5, 8, 12), seeds=range(3)) + spun_plans((6, 7, 9, 12), range(6)) + mixed_plans((6, 12), range(2))
)
ROW = ((W, N, 1, S), (N, 2, S, 0), (N, E, S, 1))
NOT_RINGS = (
    None, True, 0, "", "ring", (), [0, 1, 2, 3], (0, 1, 2), (0, 1, 2, 3, 4), (0, 3, 2, 1), (0, 1, 2, 4), (0, 1, 3, 2), (0, 1, 2, 6),
    (0, 0, 2, 3), (False, 1, 2, 3), (0, True, 2, 3), ((0, 1, 2, 3),), ("0", 1, 2, 3), (W, N, E, S), (W, 0, 1, 2), ([0], 1, 2, 3),
)


def same(many, top=1, bottom=1):
    return ((top, bottom),) * many


def around(boxes):
    """The least frame, as spans across and upward, around boxes."""
    parts = [spans(box) for box in boxes]
    return tuple((min(part[at][0] for part in parts), max(part[at][1] for part in parts)) for at in (0, 1))


def told_case(plan, shapes, ring):
    """The case of a ring, by the boxes in the wall of the whole, not by any other wall."""
    height, boxes = hung(plan, shapes)
    sized = [boxes[k] for k in inside_of(plan, ring) if is_sized(boxes[k])]
    if not sized:
        return ("points",)
    across, upward = around(sized)
    worth = pair((upward[1] - upward[0]) / (across[1] - across[0]))
    for at, place in enumerate(ring):
        if place >= 0:
            other = spans(boxes[place])
            overlap = min(other[1][1], upward[1]) - max(other[1][0], upward[0])
            beside = other[0][1] == across[0] and overlap > 0
        else:
            beside = place == W and across[0] == 0
        if beside:
            return ("second" if at % 2 else "first", worth, place)
    return None


def shapes_for_tests(plan, seed):
    """Shapes of a few kinds, and some by which pictures inside rings are points."""
    found = kinds_of_shapes(len(plan), seed)[:4]
    if len(plan) <= 7:
        found += [shapes for shapes in [point_shapes(plan, k) for k in range(len(plan))] if shapes is not None][:1]
    return found


class Cases(HungTest):
    def test_all(self):
        seen = {}
        for at, plan in enumerate(PLANS):
            for shapes in shapes_for_tests(plan, at)[at % 2::2]:
                for ring in rings_of_four(plan):
                    want = told_case(plan, shapes, ring)
                    self.answers(want, ring_case, plan, shapes, ring)
                    seen[want[0], want[1:] and ring.index(want[2]), min(ring) < 0] = True
                    self.each_turn(plan, shapes, ring, want)
        cases = {("first", 0), ("first", 2), ("second", 1), ("second", 3), ("points", ())}
        # With a side on the ring nothing inside but what is inside a ring of three is a point.
        self.assertEqual({case for case in seen if not case[2]}, {case + (False,) for case in cases})

    def each_turn(self, plan, shapes, ring, case):
        """The heights and the case of the ring begun at each of its places."""
        p, q = ring_heights(plan, shapes, ring)
        self.assertEqual(p, self.told_height(plan, shapes, ring))
        self.assertEqual(q, self.told_height(plan, shapes, ring[3:] + ring[:3]))
        exchanged = {"first": "second", "second": "first", "points": "points"}
        for at, turn in enumerate(all_turns(ring)):
            self.assert_exactly(ring_heights(plan, shapes, turn), (q, p) if at % 2 else (p, q))
            want = (exchanged[case[0]],) + case[1:] if at % 2 else case
            self.assert_exactly(ring_case(plan, shapes, turn), want)

    def told_height(self, plan, shapes, ring):
        inner, inside = inner_plan(plan, ring)
        return height_of(inner, tuple(shapes[k] for k in inside))

    def test_own_shapes(self):
        # Which case it is, and which place is on the left, does not depend on the shapes inside.
        for at, plan in enumerate(PLANS[::2]):
            kinds = kinds_of_shapes(len(plan), at)
            for shapes, others in zip(kinds, kinds[1:]):
                for ring in rings_of_four(plan):
                    inside = inside_of(plan, ring)
                    mixed = tuple(others[k] if k in inside else shape for k, shape in enumerate(shapes))
                    one, other = ring_case(plan, shapes, ring), ring_case(plan, mixed, ring)
                    self.assertEqual((one[0], one[2:]), (other[0], other[2:]))

    def test_edges(self):
        self.answers(((1, 2), (2, 1)), ring_heights, SIX, same(6), (0, 1, 2, 3))
        self.answers(((2, 1), (1, 2)), ring_heights, SIX, same(6), (1, 2, 3, 0))
        self.answers(("points",), ring_case, SIX, same(6), (0, 1, 2, 3))
        self.answers(("first", (1, 2), 0), ring_case, SIX, ((2, 1),) + same(5), (0, 1, 2, 3))
        self.answers(("second", (1, 2), 0), ring_case, SIX, ((2, 1),) + same(5), (3, 0, 1, 2))
        self.answers(("second", (2, 1), 3), ring_case, SIX, same(1) + ((2, 1),) + same(4), (0, 1, 2, 3))
        back = turned(turned(SIX))
        self.answers(("first", (1, 2), 2), ring_case, back, ((2, 1),) + same(5), (0, 1, 2, 3))
        self.answers(("second", (2, 1), 1), ring_case, back, same(1) + ((2, 1),) + same(4), (0, 1, 2, 3))
        self.answers(("first", (1, 3), W), ring_case, BARS, same(5), (W, 0, E, 1))
        self.answers(("second", (1, 3), W), ring_case, BARS, same(5), (0, E, 1, W))
        self.answers(((1, 3), (3, 1)), ring_heights, BARS, same(5), (W, 0, E, 1))
        call = {"plan": SIX, "shapes": same(6), "ring": (3, 0, 1, 2)}
        self.assert_exactly((ring_heights(**call), ring_case(**call)), (((2, 1), (1, 2)), ("points",)))

    def test_wrong(self):
        good = {"plan": SIX, "shapes": same(6), "ring": (0, 1, 2, 3)}
        wrong = {"plan": NOT_PLANS, "shapes": not_shapes(6), "ring": NOT_RINGS}
        for call in (ring_heights, ring_case, hung_by_ring):
            self.refuses(call, good, wrong)


class Layings(HungTest):
    def told_laid(self, outer, picture, inner):
        left, floor, k, _ = (number(part) for part in outer[1][picture])
        laid = []
        for box in inner[1]:
            l, f, w, z = (number(part) for part in box)
            laid.append(pairs((left + l * k, floor + f * k, w * k, z * k)))
        others = [box for at, box in enumerate(outer[1]) if at != picture]
        return (outer[0], tuple(others + laid))

    def test_all(self):
        for outer in FILLINGS[::6] + POINTED[::7] + [ONE_BOX, HALF, POINT_BOX]:
            for picture, box in enumerate(outer[1]):
                if not is_sized(box):
                    continue
                worth = number(box[3]) / number(box[2])
                for inner in FILLINGS[2::25] + POINTED[3::25]:
                    factor = worth / number(inner[0])
                    boxes = tuple(
                        (box[0], pair(number(box[1]) * factor), box[2], pair(number(box[3]) * factor)) for box in inner[1]
                    )
                    fit = (pair(worth), boxes)
                    want = self.told_laid(outer, picture, fit)
                    self.answers(want, laid_boxes, outer, picture, fit)
                    self.assertTrue(is_told_wall(want))
        self.assert_exactly(laid_boxes(outer=HALF, picture=0, inner=hung(ONE, ((2, 1),))), (HALF[0], HALF[1][::-1]))
        self.answers(ONE_BOX, laid_boxes, ONE_BOX, 0, ONE_BOX)

    def test_shapes(self):
        # Each box with size keeps its shape.
        for outer in FILLINGS[5::6]:
            told = shapes_in(outer)
            inner = hung(TWO, (times(told[0], (2, 1)),) * 2)
            self.assertEqual(shapes_in(laid_boxes(outer, 0, inner)), told[1:] + shapes_in(inner))

    def test_wrong(self):
        wrong = {
            "outer": NOT_WALLS, "picture": not_pictures(2) + (0,),
            "inner": NOT_WALLS + (HALF[1], ((2, 1), HALF[1]), hung(ONE, ((2, 1),)), hung(ONE, ((1, 2),))),
        }
        self.refuses(laid_boxes, {"outer": POINT_BOX, "picture": 1, "inner": HALF}, wrong)
        self.not_usable("inner", laid_boxes, HALF, 0, ONE_BOX)

    def test_by_ring(self):
        for at, plan in enumerate(PLANS):
            for shapes in shapes_for_tests(plan, at)[::2]:
                want = hung(plan, shapes)
                for ring in rings_of_four(plan):
                    for turn in all_turns(ring):
                        self.assert_exactly(hung_by_ring(plan, shapes, turn), want)
        shapes = ((2, 1),) + same(5)
        call = {"plan": SIX, "shapes": shapes, "ring": (1, 2, 3, 0)}
        self.assert_exactly(hung_by_ring(**call), hung(SIX, shapes))
        self.answers(hung(SIX, shapes), hung_by_ring, SIX, shapes, (0, 1, 2, 3))

    def test_shut_wall(self):
        # By (G9) the wall of the shut plan has the other boxes, with the case's height for a shape.
        for at, plan in enumerate(PLANS[::3]):
            for shapes in kinds_of_shapes(len(plan), at)[:3]:
                for ring in rings_of_four(plan):
                    case = ring_case(plan, shapes, ring)
                    worth = case[1] if len(case) > 1 else (22, 7)
                    shut, kept = shut_plan(plan, ring)
                    wall = hung(shut, tuple(shapes[k] for k in kept) + (worth,))
                    whole = hung(plan, shapes)
                    self.assertEqual(wall[0], whole[0])
                    self.assertEqual(wall[1][:-1], tuple(whole[1][k] for k in kept))


class Trees(HungTest):
    def told_tree(self, plan):
        steps = []
        while True:
            rings = [(len(inside_of(plan, ring)), at) for at, ring in enumerate(rings_of_four(plan))]
            rings = sorted(pair for pair in rings if pair[0] >= 2)
            if not rings:
                return tuple(steps)
            ring = rings_of_four(plan)[rings[0][1]]
            steps.append((ring, inside_of(plan, ring)))
            plan = shut_plan(plan, ring)[0]

    def test_all(self):
        lengths = {}
        for plan in PLANS:
            want = self.told_tree(plan)
            self.answers(want, ring_tree, plan)
            self.assert_exactly(ring_tree(plan=plan), want)
            self.assertLess(len(want), len(plan))
            lengths[len(want)] = True
        self.assertGreaterEqual(len(lengths), 4)

    def test_edges(self):
        self.answers((), ring_tree, ONE)
        self.answers((), ring_tree, TWO)
        self.answers((), ring_tree, TUCKED)
        self.answers((), ring_tree, FOUR)
        self.answers((), ring_tree, FIVE)
        self.answers((((0, 1, 2, 3), (4, 5)),), ring_tree, SIX)
        self.answers((((W, N, 2, S), (0, 1)),), ring_tree, ROW)

    def test_hung(self):
        for at, plan in enumerate(PLANS):
            for shapes in kinds_of_shapes(len(plan), at)[1:4]:
                self.answers(hung(plan, shapes), hung_by_tree, plan, shapes)
        self.assert_exactly(hung_by_tree(plan=TWO, shapes=same(2)), hung(TWO, same(2)))

    def test_wrong(self):
        self.refuses(ring_tree, {"plan": SIX}, {"plan": NOT_PLANS})
        self.refuses(hung_by_tree, {"plan": SIX, "shapes": same(6)}, {"plan": NOT_PLANS, "shapes": not_shapes(6)})


class Areas(HungTest):
    def test_all_inside_fill_a_box(self):
        # What is inside a ring fills a box of the wall, or a point.
        for at, plan in enumerate(PLANS[1::3]):
            shapes = kinds_of_shapes(len(plan), at)[2]
            boxes = hung(plan, shapes)[1]
            for ring in rings_of_four(plan):
                inside = [boxes[k] for k in inside_of(plan, ring)]
                across, upward = around(inside)
                area = sum(number(box[2]) * number(box[3]) for box in inside)
                self.assertEqual(area, Fraction((across[1] - across[0]) * (upward[1] - upward[0])))


if __name__ == "__main__":
    unittest.main()
