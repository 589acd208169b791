"""Point 49: the checker of walls of a plan and of shapes; what point 52 says of it."""

import itertools
import unittest

from hungwall.errors import InvalidPaper
from hungwall.hanging import hung
from hungwall.judging import lets_hung
from hungwall.turnings import renumbered
from tests.fillings import FILLINGS, NOT_WALLS, changed
from tests.helping import (
    E, FIVE, FOUR, N, NAMED, NOT_PLANS, ONE, S, TUCKED, TWO, W, HungTest, all_small_plans, grown_plans, kinds_of_shapes,
    mixed_plans, not_shapes, pile,
)
from tests.judge import common, is_sized, is_told_box, is_told_hanging, is_told_quotient, meets_side, number, pair, spans

ALL = NAMED + tuple(grown_plans(counts=(3, 5, 8, 12), seeds=range(3)) + mixed_plans((5, 7, 12), range(3))) + (pile(12),)
PARTS = ((0, 1), (1, 2), (1, 3), (1, 1), (2, 1))


def told_fault(plan, shapes, thing):
    """The word and place of the first entry of the list that applies, or None."""
    if type(thing) is not tuple or len(thing) != 2 or not is_told_quotient(thing[0]) or number(thing[0]) <= 0:
        return "form", -1
    height, boxes = thing
    if type(boxes) is not tuple or len(boxes) != len(plan) or not all(is_told_box(box) for box in boxes):
        return "form", -1
    for i, box in enumerate(boxes):
        if number(box[3]) != number(shapes[i]) * number(box[2]):
            return "height", i
        across, upward = spans(box)
        if across[1] > 1 or upward[1] > number(height):
            return "frame", i
        for side in (W, N, E, S):
            if side in plan[i] and not meets_side(box, height, side):
                return "side", (i, side)
    for i, j in itertools.combinations(range(len(plan)), 2):
        shared = common(boxes[i], boxes[j])
        if j in plan[i] and shared is None:
            return "tie", (i, j)
        if is_sized(boxes[i]) and is_sized(boxes[j]) and shared is not None and min(shared) > 0:
            return "overlap", (i, j)
    return None


class LetsHung(HungTest):
    def judges(self, plan, shapes, thing):
        """The checker says what the document's list does."""
        fault = told_fault(plan, shapes, thing)
        if fault is None:
            self.assert_exactly(lets_hung(plan, shapes, thing), thing[0])
        else:
            with self.assertRaises(InvalidPaper) as caught:
                lets_hung(plan, shapes, thing)
            self.assert_exactly((caught.exception.word, caught.exception.at), fault)
        return fault

    def test_lets_what_hung_returns(self):
        for plan in ALL + tuple(all_small_plans(3)):
            for shapes in kinds_of_shapes(len(plan), 1):
                wall = hung(plan, shapes)
                self.answers(wall[0], lets_hung, plan, shapes, wall)
                self.assert_exactly(lets_hung(plan=plan, shapes=shapes, thing=wall), wall[0])

    def test_refuses_any_other_box(self):
        seen = set()
        for plan in ALL:
            for shapes in kinds_of_shapes(len(plan), 2)[:3:2]:
                wall = hung(plan, shapes)
                for picture, at in itertools.product(range(len(plan)), range(4)):
                    old = number(wall[1][picture][at])
                    for part in PARTS + (pair(old / 2), pair(old * 2), pair(old + 1)):
                        told = changed(wall, picture, at, part)
                        fault = self.judges(plan, shapes, told)
                        self.assertEqual(fault is None, told == wall)
                        seen.add(fault and fault[0])
        self.assertLessEqual({"form", "height", "frame", "side"}, seen)

    def test_refuses_boxes_moved_and_resized(self):
        seen = set()
        for plan in ALL:
            for shapes in kinds_of_shapes(len(plan), 3)[:3:2]:
                height, boxes = hung(plan, shapes)
                for i, j in itertools.permutations(range(len(plan)), 2):
                    moved = list(boxes)
                    moved[i] = boxes[j][:2] + boxes[i][2:]
                    seen.add(self.judges(plan, shapes, (height, tuple(moved))) is None)
                    moved[j] = boxes[i][:2] + boxes[j][2:]
                    seen.add(self.judges(plan, shapes, (height, tuple(moved))) is None)
                    # A box that is made another size of the same shape.
                    for width in ((0, 1), (1, 2), boxes[j][2]):
                        tall = pair(number(width) * number(shapes[i]))
                        told = changed(changed((height, boxes), i, 2, width), i, 3, tall)
                        self.assertEqual(self.judges(plan, shapes, told) is None, told == (height, boxes))
        self.assertEqual(seen, {True, False})

    def test_other_heights(self):
        for plan in ALL:
            for shapes in kinds_of_shapes(len(plan), 4):
                height, boxes = hung(plan, shapes)
                for factor in (2, 1):
                    other = (pair(number(height) * factor + factor - 1), boxes)
                    self.assertEqual(self.judges(plan, shapes, other) is None, factor == 1)
                lower = (pair(number(height) / 2), boxes)
                self.assertIsNotNone(self.judges(plan, shapes, lower))

    def test_walls_of_other_plans(self):
        for plan in ALL:
            for wall in FILLINGS:
                if len(wall[1]) == len(plan):
                    shapes = tuple(pair(number(box[3]) / number(box[2])) for box in wall[1])
                    fault = self.judges(plan, shapes, wall)
                    self.assertEqual(fault is None, is_told_hanging(plan, shapes, wall))

    def test_form(self):
        ones = ((1, 1),) * 2
        for thing in NOT_WALLS:
            if told_fault(TWO, ones, thing) == ("form", -1):
                self.no_paper("form", -1, lets_hung, TWO, ones, thing)
                self.no_paper("form", -1, lets_hung, plan=TWO, shapes=ones, thing=thing)
        height, boxes = hung(TWO, ones)
        things = (
            (height, boxes[:1]), (height, boxes + boxes[:1]), (height, list(boxes)), [height, boxes], (boxes, height),
            ((True, 2), boxes), ((0, 1), boxes), ((-1, 2), boxes), ((2, 4), boxes), (height, boxes, None), (height,),
            (height, (boxes[0], list(boxes[1]))), (height, (boxes[0], boxes[1][:3])), (height, (boxes[0], None)),
            (height, (boxes[0][:3] + ((True, 2),), boxes[1])), (height, (((0, 1), (0, 1), (1, 2), (0, 1)), boxes[1])),
        )
        for thing in things:
            self.no_paper("form", -1, lets_hung, TWO, ones, thing)

    def test_first_entry(self):
        ones, half, unit = ((1, 1),) * 2, (1, 2), (1, 1)
        left, right = ((0, 1), (0, 1), half, half), (half, (0, 1), half, half)

        def refused(word, at, *boxes):
            self.no_paper(word, at, lets_hung, TWO, ones, (half, boxes))

        refused("side", (0, W), right, left)
        refused("height", 0, left[:3] + (unit,), right)
        refused("height", 1, left, right[:2] + ((1, 3), half))
        # A height ahead of a frame ahead of a side; those of a picture ahead of those of the next one.
        refused("height", 0, (unit, (1, 1), half, unit), right)
        refused("frame", 0, (unit, (1, 1), half, half), right[:3] + (unit,))
        refused("frame", 0, ((3, 4), (0, 1), half, half), right)
        refused("frame", 0, ((0, 1), (1, 4), half, half), right)
        refused("frame", 1, left, (unit, (0, 1), half, half))
        refused("side", (0, W), ((1, 4), (0, 1), half, half), right[:3] + (unit,))
        small, high = ((0, 1), (0, 1), (1, 4), (1, 4)), ((0, 1), (1, 4), (1, 4), (1, 4))
        refused("side", (0, N), small, right)
        refused("side", (0, S), high, right)
        refused("side", (1, N), left, ((1, 4), (0, 1), (1, 4), (1, 4)))
        refused("side", (1, E), left, left)
        refused("side", (1, S), left, ((3, 4), (1, 4), (1, 4), (1, 4)))
        self.no_paper("height", 0, lets_hung, TWO, ((2, 1),) * 2, (half, (left, right)))
        self.no_paper("frame", 0, lets_hung, TWO, ones, ((1, 3), (left, right)))
        self.no_paper("side", (0, N), lets_hung, TWO, ones, ((2, 1), (left, right)))

    def test_ties_and_overlaps(self):
        ones, half = ((1, 1),) * 5, (1, 2)
        grid = ((0, 1), half, half, half), (half, half, half, half), (half, (0, 1), half, half), ((0, 1), (0, 1), half, half)
        point = (half, half, (0, 1), (0, 1))
        self.answers((1, 1), lets_hung, FIVE, ones, ((1, 1), grid + (point,)))
        self.no_paper("tie", (1, 4), lets_hung, FIVE, ones, ((1, 1), grid + (((1, 4), half) + point[2:],)))
        self.no_paper("tie", (0, 4), lets_hung, FIVE, ones, ((1, 1), grid + (((1, 1), (0, 1)) + point[2:],)))
        # A point within a box is no overlap; so it is the ties that are told.
        self.no_paper("tie", (1, 4), lets_hung, FIVE, ones, ((1, 1), grid + (((1, 4), (3, 4)) + point[2:],)))
        first = renumbered(FIVE, (4, 0, 1, 2, 3))
        self.no_paper("tie", (0, 2), lets_hung, first, ones, ((1, 1), (((1, 4), (3, 4)) + point[2:],) + grid))
        self.no_paper("tie", (0, 4), lets_hung, FIVE, ones, ((1, 1), grid + (((3, 4), (1, 4)) + point[2:],)))
        middle = ((1, 4), (1, 4), half, half)
        self.no_paper("overlap", (0, 4), lets_hung, FIVE, ones, ((1, 1), grid + (middle,)))
        # The tie of a pair ahead of its overlap, both ahead of those of the next pair.
        narrow = ((0, 1), (3, 4), (1, 4), (1, 4)), (half, half, half, half), (half, (0, 1), half, half), grid[3]
        self.no_paper("tie", (0, 1), lets_hung, FOUR, ones[:4], ((1, 1), narrow))
        wide = ((0, 1), (1, 4), (3, 4), (3, 4)), grid[1], grid[2], grid[3]
        self.no_paper("overlap", (0, 1), lets_hung, FOUR, ones[:4], ((1, 1), wide))
        wide = (grid[0], grid[1], ((1, 4), (0, 1), (3, 4), (3, 4)), grid[3])
        self.no_paper("overlap", (0, 2), lets_hung, FOUR, ones[:4], ((1, 1), wide))

    def test_one_picture(self):
        wall = ((7, 3), (((0, 1), (0, 1), (1, 1), (7, 3)),))
        self.answers((7, 3), lets_hung, ONE, ((7, 3),), wall)
        self.no_paper("height", 0, lets_hung, ONE, ((7, 4),), wall)
        self.no_paper("side", (0, N), lets_hung, ONE, ((7, 3),), ((8, 3), wall[1]))
        self.no_paper("frame", 0, lets_hung, ONE, ((7, 3),), ((2, 1), wall[1]))
        self.no_paper("side", (0, N), lets_hung, ONE, ((7, 3),), ((7, 3), (((0, 1),) * 4,)))
        point = ((0, 1), (7, 3), (0, 1), (0, 1))
        self.answers((7, 3), lets_hung, TUCKED, ((7, 3), (9, 1)), ((7, 3), wall[1] + (point,)))
        off = ((0, 1), (2, 1), (0, 1), (0, 1))
        self.no_paper("side", (1, N), lets_hung, TUCKED, ((7, 3), (9, 1)), ((7, 3), wall[1] + (off,)))

    def test_wrong(self):
        ones = ((1, 1),) * 4
        good = {"plan": FOUR, "shapes": ones, "thing": hung(FOUR, ones)}
        self.refuses(lets_hung, good, {"plan": NOT_PLANS, "shapes": not_shapes(4)})
        self.not_usable("plan", lets_hung, None, None, None)
        self.not_usable("shapes", lets_hung, FOUR, None, None)


if __name__ == "__main__":
    unittest.main()
