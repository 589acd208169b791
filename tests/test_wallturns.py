"""Points 50 and 51: walls mirrored, turned and stretched; the class Hung; what point 52 says of them."""

import itertools
import unittest

from hungwall.hanging import hung
from hungwall.hungclasses import Hung
from hungwall.leastwidths import widths_of
from hungwall.points import points_in
from hungwall.turnings import flipped, mirrored, turned
from hungwall.wallturns import flipped_boxes, mirrored_boxes, stretched, turned_boxes
from hungwall.walls import is_hanging
from tests.fillings import FILLINGS, FORTY, HALF, NOT_WALLS, ONE_BOX, POINT_BOX, POINTED, changed
from tests.helping import (
    E, FIVE, FOUR, N, NAMED, NOT_PLANS, NOT_POSITIVE, ONE, S, SIDES, TUCKED, TWO, W, HungTest, grown_plans,
    kinds_of_shapes, mixed_plans, not_pictures, not_places, not_shapes, pile,
)
from tests.judge import common, meets_side, number, pair, pairs

WALLS = FILLINGS + POINTED + FORTY + [ONE_BOX, HALF, POINT_BOX]
PLANS = NAMED + tuple(grown_plans(counts=(2, 3, 5, 8, 12), seeds=range(3)) + mixed_plans((5, 7, 9, 12), range(3)))
PLANS += (pile(12), turned(pile(12)))
FACTORS = ((1, 1), (2, 3), (10 ** 299, 10 ** 300 - 1))


def told_turn(wall, height, change):
    """The wall of this height whose boxes a change of four fractions makes."""
    boxes = [change(*[number(part) for part in box]) for box in wall[1]]
    return (pair(height), tuple(pairs(box) for box in boxes))


class Turns(HungTest):
    def test_boxes(self):
        for wall in WALLS:
            h = number(wall[0])
            want = told_turn(wall, h, lambda l, f, w, z: (1 - l - w, f, w, z))
            self.answers(want, mirrored_boxes, wall)
            want = told_turn(wall, h, lambda l, f, w, z: (l, h - f - z, w, z))
            self.answers(want, flipped_boxes, wall)
            want = told_turn(wall, 1 / h, lambda l, f, w, z: (f / h, (1 - l - w) / h, z / h, w / h))
            self.answers(want, turned_boxes, wall)
            for factor in FACTORS:
                c = number(factor)
                want = told_turn(wall, h * c, lambda l, f, w, z: (l, f * c, w, z * c))
                self.answers(want, stretched, wall, factor)

    def test_walls(self):
        for wall in WALLS[::2]:
            for call in (mirrored_boxes, flipped_boxes, turned_boxes):
                self.assertIs(is_hanging(call(wall)), True)
            self.assertIs(is_hanging(stretched(wall, FACTORS[2])), True)
            self.assertEqual(mirrored_boxes(mirrored_boxes(wall)), wall)
            self.assertEqual(flipped_boxes(flipped_boxes(wall)), wall)
            self.assertEqual(turned_boxes(turned_boxes(wall)), flipped_boxes(mirrored_boxes(wall)))
            self.assertEqual(turned_boxes(turned_boxes(turned_boxes(turned_boxes(wall)))), wall)
            self.assertEqual(stretched(stretched(wall, (2, 3)), (3, 2)), wall)

    def test_walls_of_turned_plans(self):
        for plan in PLANS:
            for shapes in kinds_of_shapes(len(plan), 5):
                wall = hung(plan, shapes)
                self.assertEqual(mirrored_boxes(wall), hung(mirrored(plan), shapes))
                self.assertEqual(flipped_boxes(wall), hung(flipped(plan), shapes))
                self.assertEqual(turned_boxes(wall), hung(turned(plan), tuple(shape[::-1] for shape in shapes)))
                times = tuple(pair(number(shape) * 2 / 3) for shape in shapes)
                self.assertEqual(stretched(wall, (2, 3)), hung(plan, times))

    def test_edges(self):
        self.answers(((1, 2), (((0, 1), (0, 1), (1, 1), (1, 2)),)), turned_boxes, ((2, 1), (((0, 1), (0, 1), (1, 1), (2, 1)),)))
        # What was on the left is above.
        self.answers((0, 1), lambda wall: turned_boxes(wall)[1][1][1], HALF)
        self.answers((1, 2), lambda wall: turned_boxes(wall)[1][0][1], HALF)
        self.answers((((1, 1), (1, 1), (0, 1), (0, 1)), POINT_BOX[1][1]), lambda wall: mirrored_boxes(wall)[1], POINT_BOX)
        self.answers((((0, 1), (0, 1), (0, 1), (0, 1)), POINT_BOX[1][1]), lambda wall: flipped_boxes(wall)[1], POINT_BOX)

    def test_wrong(self):
        for call in (mirrored_boxes, flipped_boxes, turned_boxes):
            self.refuses(call, {"wall": HALF}, {"wall": NOT_WALLS})
        wrong = {"wall": NOT_WALLS, "factor": NOT_POSITIVE}
        self.refuses(stretched, {"wall": HALF, "factor": (2, 3)}, wrong)


class TheClass(HungTest):
    def test_attributes(self):
        for circles in PLANS:
            for told in kinds_of_shapes(len(circles), 6)[::2]:
                held = Hung(circles=circles, told=told)
                wall = hung(circles, told)
                self.assert_exactly((held.circles, held.told), (circles, told))
                self.assert_exactly((held.tall, held.hanging), (wall[0], wall))
                self.assert_exactly(held.widths, widths_of(circles, told))
                self.assert_exactly(held.points, points_in(circles, told))

    def test_box_and_meets(self):
        for circles in PLANS:
            for told in kinds_of_shapes(len(circles), 7)[::3]:
                held = Hung(circles, told)
                height, boxes = held.hanging
                for picture, box in enumerate(boxes):
                    self.answers(box, held.box, picture)
                    for side in SIDES:
                        self.answers(meets_side(box, height, side), held.meets, picture, side)
                        self.answers(meets_side(box, height, side), held.meets, side, picture)
                for one, other in itertools.product(range(len(circles)), repeat=2):
                    self.answers(common(boxes[one], boxes[other]) is not None, held.meets, one, other)
                    if other in circles[one]:
                        self.answers(True, held.meets, one, other)

    def test_sides_meet(self):
        for held in (Hung(ONE, ((1, 1),)), Hung(FOUR, ((1, 1),) * 4)):
            for one, other in itertools.product(SIDES, repeat=2):
                self.answers((one, other) not in ((W, E), (E, W), (N, S), (S, N)), held.meets, one, other)
        tucked = Hung(TUCKED, ((2, 1), (1, 1)))
        self.assert_exactly([tucked.meets(1, side) for side in SIDES], [True, True, False, False])
        self.assert_exactly([tucked.meets(1, 0), tucked.meets(1, 1)], [True, True])

    def test_fits(self):
        for circles in PLANS[::2]:
            for told in kinds_of_shapes(len(circles), 8)[1:3]:
                held = Hung(circles, told)
                self.answers(True, held.fits, hung(circles, told))
                for picture, at in itertools.product(range(len(circles)), range(4)):
                    self.answers(False, held.fits, changed(held.hanging, picture, at, (17, 19)))
        held = Hung(ONE, ((1, 1),))
        self.answers(True, held.fits, ONE_BOX)
        for thing in NOT_WALLS + (HALF, held, (held,), ((1, 1), [ONE_BOX[1][0]]), 1.0, ((True, 1), ONE_BOX[1])):
            self.assertIs(held.fits(thing), False)
        self.assertIs(held.fits(thing=ONE_BOX), True)
        self.assertIs(Hung(TWO, ((1, 1),) * 2).fits(ONE_BOX), False)

    def test_equal(self):
        ones, twos = ((1, 1),) * 4, ((2, 1),) * 4
        self.assertTrue(Hung(FOUR, ones) == Hung(tuple(list(FOUR)), tuple(list(ones))))
        self.assertFalse(Hung(FOUR, ones) != Hung(FOUR, ones))
        # Two plans, and two shapes, may have the same wall.
        self.assertFalse(Hung(TUCKED, ((1, 1), (1, 1))) == Hung(TUCKED, ((1, 1), (2, 1))))
        others = (Hung(FOUR, twos), Hung(turned(FOUR), ones), Hung(FIVE, ones + ones[:1]))
        for other in others + (FOUR, ones, (FOUR, ones), hung(FOUR, ones), None, 4, "x", 1):
            self.assertIs(Hung(FOUR, ones) == other, False)
            self.assertIs(Hung(FOUR, ones) != other, True)

    def test_wrong(self):
        ones = ((1, 1),) * 5
        self.refuses(Hung, {"circles": FIVE, "told": ones}, {"circles": NOT_PLANS, "told": not_shapes(5)})
        held = Hung(FIVE, ones)
        self.refuses(held.box, {"picture": 4}, {"picture": not_pictures(5)})
        self.refuses(held.meets, {"one": 0, "other": N}, {"one": not_places(5), "other": not_places(5)})
        self.assertEqual(held, Hung(FIVE, ones))
        self.assert_exactly(held.hanging, hung(FIVE, ones))


if __name__ == "__main__":
    unittest.main()
