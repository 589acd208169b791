"""Points 45, 46 and 47: least widths, the wall, its points; and what points 11 and 52 say of these."""

import random
import unittest
from fractions import Fraction

from hungwall.emptying import emptied
from hungwall.hanging import hung
from hungwall.leastwidths import height_of, heights_of, widths_of
from hungwall.lengths import length_of
from hungwall.lots import lot_parts, rim_of
from hungwall.points import points_in, specks
from hungwall.rings import inside_of, rings_of_four, rings_of_three
from hungwall.straightways import all_ways, straight_ways
from hungwall.tables import table_bar, table_weight
from hungwall.turnings import flipped, mirrored, renumbered, turned
from tests.helping import (
    BARS, FIVE, FOUR, NAMED, NOT_PLANS, ONE, TUCKED, TWO, HungTest, all_small_plans, grown_plans, kinds_of_shapes,
    mixed_plans, not_shapes, pile,
)
from tests.judge import common, is_sized, is_told_hanging, number, pair, pairs

SMALL = NAMED + tuple(grown_plans(counts=(2, 3, 4, 5), seeds=range(3)) + mixed_plans((4, 5, 6), range(3)))
TWELVE = tuple(grown_plans(counts=(11, 12), seeds=range(3)) + mixed_plans((8, 9, 10, 11, 12), range(3)))
PILES = (pile(12), turned(pile(12)))
ALL = SMALL + TWELVE + PILES


def same(many, top=1, bottom=1):
    return ((top, bottom),) * many


class TheWall(HungTest):
    def is_wall(self, plan, shapes):
        """What hung returns is the wall by each condition, and what the others return is of it."""
        height, boxes = wall = hung(plan, shapes)
        self.assertTrue(is_told_hanging(plan, shapes, wall), (plan, shapes, wall))
        self.assert_exactly(wall, (tuple(height), tuple(tuple(tuple(part) for part in box) for box in boxes)))
        self.assert_exactly(widths_of(plan, shapes), tuple(box[2] for box in boxes))
        self.assert_exactly(heights_of(plan, shapes), tuple(box[3] for box in boxes))
        self.assert_exactly(height_of(plan, shapes), height)
        points = tuple(k for k, box in enumerate(boxes) if box[2:] == ((0, 1), (0, 1)))
        self.assert_exactly(points_in(plan, shapes), points)
        parts = lot_parts(plan, points)
        self.assert_exactly(specks(plan, shapes), tuple((part, rim_of(plan, part)) for part in parts))
        self.specks_are_points(plan, wall, parts)
        return wall

    def specks_are_points(self, plan, wall, parts):
        height, boxes = wall
        for part in parts:
            self.assertEqual(len({boxes[k] for k in part}), 1)
            rim = rim_of(plan, part)
            self.assertIn(len(rim), (3, 4))
            for place in rim:
                if place >= 0:
                    self.assertTrue(is_sized(boxes[place]))
                    self.assertIsNotNone(common(boxes[place], boxes[part[0]]))

    def test_each_small_plan(self):
        for at, plan in enumerate(all_small_plans(4)):
            for shapes in kinds_of_shapes(len(plan), at)[at % 2::2]:
                self.is_wall(plan, shapes)

    def test_plans_of_all_sizes(self):
        for plan in ALL:
            for shapes in kinds_of_shapes(len(plan), len(plan)):
                self.is_wall(plan, shapes)

    def test_many_level_ways(self):
        # On the way to the least widths of these, level ways that were shortest cease to be, two and three at a time.
        plan = ((-3, 3, 1, 5, 2), (-2, -1, 5, 0, 3), (-4, -3, 0, 5, 4), (-3, -2, 1, 0), (-4, 2, 5, -1), (-1, 4, 2, 0, 1))
        self.is_wall(plan, ((3, 7), (1, 6), (8, 5), (2, 1), (9, 1), (3, 8)))
        plan = ((-4, 3, 1, 2, -1), (-2, 2, 0, 3, 5), (-2, -1, 0, 1), (-4, 4, 5, 1, 0), (-4, -3, 5, 3), (-3, -2, 1, 3, 4))
        self.is_wall(plan, ((1, 2), (1, 2), (1, 2), (1, 2), (2, 1), (1, 1)))
        plan = (
            (-2, 4, 1, 3, 2), (-1, 6, 3, 0, 4), (-3, -2, 0, 3, 5), (0, 1, 6, 5, 2), (-2, -1, 1, 0), (-3, 2, 3, 6),
            (-4, -3, 5, 3, 1, -1),
        )
        self.is_wall(plan, ((1, 10 ** 20 - 1),) * 5 + ((1, 1), (10 ** 19 + 1, 10 ** 19)))
        plan = (
            (-3, -2, 2, 6, 1, 4), (-1, 5, 3, 4, 0, 6), (-2, -1, 6, 0), (-4, 4, 1, 5), (-4, -3, 0, 1, 3), (-4, 3, 1, -1),
            (-1, 1, 0, 2),
        )
        far, near = (10 ** 20 - 1, 1), (10 ** 19 + 1, 10 ** 19)
        self.is_wall(plan, (far[::-1], near, far, far, (1, 1), far, (1, 1)))

    def test_asked_twice(self):
        for plan in SMALL:
            for shapes in kinds_of_shapes(len(plan), 1):
                for call in (hung, widths_of, heights_of, height_of, points_in, specks):
                    self.answers(call(plan, shapes), call, plan, shapes)
                    self.assert_exactly(call(plan=plan, shapes=shapes), call(plan, shapes))

    def test_examples_in_words(self):
        half = (1, 2)
        self.answers((half, half), widths_of, TWO, same(2))
        self.answers(half, height_of, TWO, same(2))
        self.answers(same(4, 1, 2), widths_of, FOUR, same(4))
        self.answers((1, 1), height_of, FOUR, same(4))
        shapes = ((2, 1),) + same(3)
        self.answers(((2, 5), (3, 5), (3, 5), (2, 5)), widths_of, FOUR, shapes)
        self.answers((6, 5), height_of, FOUR, shapes)
        shapes = ((2, 1),) + same(4)
        self.answers(pairs(Fraction(k, 11) for k in (4, 7, 6, 5, 1)), widths_of, FIVE, shapes)
        self.answers((13, 11), height_of, FIVE, shapes)
        self.answers((4,), points_in, FIVE, same(5))
        for seed in range(20):
            for shapes in kinds_of_shapes(5, seed):
                self.assertNotIn(3, points_in(BARS, shapes))

    def test_one_picture(self):
        for shape in ((1, 1), (7, 3), (1, 10 ** 20 - 1), (10 ** 20 - 1, 1)):
            self.answers((shape, (((0, 1), (0, 1), (1, 1), shape),)), hung, ONE, (shape,))
            self.answers((), points_in, ONE, (shape,))
            self.answers((), specks, ONE, (shape,))

    def test_piles(self):
        for many in (2, 5, 12):
            shapes = kinds_of_shapes(many, many)[2]
            numbers = [number(shape) for shape in shapes]
            floors = [sum(numbers[k + 1:]) for k in range(many)]
            boxes = tuple(pairs((0, floor, 1, part)) for floor, part in zip(floors, numbers))
            self.answers((pair(sum(numbers)), boxes), hung, pile(many), shapes)
            height = 1 / sum(1 / part for part in numbers)
            self.answers(pair(height), height_of, turned(pile(many)), shapes)

    def test_rings_of_three(self):
        for plan in ALL:
            always = {k for ring in rings_of_three(plan) for k in inside_of(plan, ring)}
            for shapes in kinds_of_shapes(len(plan), 2)[:4]:
                self.assertLessEqual(always, set(points_in(plan, shapes)))
                # Without them there is the same wall but for them.
                left, kept = emptied(plan)
                height, boxes = hung(plan, shapes)
                without = hung(left, tuple(shapes[k] for k in kept))
                self.assertEqual(without, (height, tuple(boxes[k] for k in kept)))
        self.answers((((1,), (-4, -3, 0)),), specks, TUCKED, ((2, 1), (5, 1)))

    def test_points_at_crossings(self):
        for plan in ALL:
            always = {k for ring in rings_of_three(plan) for k in inside_of(plan, ring)}
            rings = [ring for ring in rings_of_four(plan) if min(ring) >= 0]
            for shapes in kinds_of_shapes(len(plan), 3)[:4]:
                boxes = hung(plan, shapes)[1]
                want = set(always)
                for ring in rings:
                    ends = [(boxes[k][0], boxes[k][1], boxes[k][2], boxes[k][3]) for k in ring]
                    if all(is_sized(box) for box in ends) and self.have_one_point(ends):
                        want |= set(inside_of(plan, ring))
                self.assertEqual(set(points_in(plan, shapes)), want)

    def have_one_point(self, boxes):
        lefts, floors = [number(box[0]) for box in boxes], [number(box[1]) for box in boxes]
        rights = [left + number(box[2]) for left, box in zip(lefts, boxes)]
        tops = [floor + number(box[3]) for floor, box in zip(floors, boxes)]
        return max(lefts) <= min(rights) and max(floors) <= min(tops)

    def test_wrong(self):
        good = {"plan": FIVE, "shapes": same(5)}
        for call in (hung, widths_of, height_of, heights_of, points_in, specks):
            self.refuses(call, good, {"plan": NOT_PLANS, "shapes": not_shapes(5)})


class Consequences(HungTest):
    """What points 11 and 52 say."""

    def test_heights_and_bars(self):
        for plan in ALL:
            for shapes in kinds_of_shapes(len(plan), 4):
                height, boxes = hung(plan, shapes)
                widths = widths_of(plan, shapes)
                self.assertEqual(table_weight(shapes, widths), height)
                self.assertEqual(pair(sum(number(box[2]) * number(box[3]) for box in boxes)), height)
                self.assertEqual(table_bar(plan, shapes, widths), height)

    def test_ways(self):
        for plan in SMALL + TWELVE[:4]:
            call = all_ways if len(plan) <= 6 else straight_ways
            for shapes in kinds_of_shapes(len(plan), 5):
                widths, heights = widths_of(plan, shapes), heights_of(plan, shapes)
                lengths = {way: number(length_of(widths, way)) for way in call(plan, "level")}
                self.assertGreaterEqual(min(lengths.values()), 1)
                least = [number(length_of(heights, way)) for way in call(plan, "upright")]
                self.assertGreaterEqual(min(least), number(height_of(plan, shapes)))
                on_least = {k for way, length in lengths.items() if length == 1 for k in way}
                self.assertLessEqual({k for k, width in enumerate(widths) if width[0]}, on_least)

    def test_renumbered(self):
        for plan in ALL:
            order = tuple(random.Random(len(plan)).sample(range(len(plan)), len(plan)))
            for shapes in kinds_of_shapes(len(plan), 6):
                height, boxes = hung(plan, shapes)
                moved = hung(renumbered(plan, order), tuple(shapes[k] for k in order))
                self.assertEqual(moved, (height, tuple(boxes[k] for k in order)))

    def test_turned_heights(self):
        for plan in ALL:
            for shapes in kinds_of_shapes(len(plan), 7):
                height = height_of(plan, shapes)
                self.assertEqual(height_of(mirrored(plan), shapes), height)
                self.assertEqual(height_of(flipped(plan), shapes), height)
                over = tuple(shape[::-1] for shape in shapes)
                self.assertEqual(height_of(turned(plan), over), height[::-1])

    def test_other_shapes(self):
        for plan in ALL:
            many = len(plan)
            for shapes in kinds_of_shapes(many, 8)[:4]:
                wall = hung(plan, shapes)
                points = points_in(plan, shapes)
                # Other shapes of points leave the wall as it was.
                moved = tuple((5, 3) if k in points else shape for k, shape in enumerate(shapes))
                self.assertEqual(hung(plan, moved), wall)
                # The height rises where the shape of a picture that is no point does.
                for k in range(0, many, 3):
                    risen = tuple(pair(number(shape) * (2 if j == k else 1)) for j, shape in enumerate(shapes))
                    height = number(height_of(plan, risen))
                    if k in points:
                        self.assertEqual(height, number(wall[0]))
                    else:
                        self.assertGreater(height, number(wall[0]))
                times = tuple(pair(number(shape) * Fraction(7, 3)) for shape in shapes)
                self.assertEqual(number(height_of(plan, times)), number(wall[0]) * Fraction(7, 3))
                self.assertEqual(widths_of(plan, times), widths_of(plan, shapes))

    def test_half_way(self):
        for plan in ALL[::2]:
            kinds = kinds_of_shapes(len(plan), 10)[:4]
            for one, other in zip(kinds, kinds[1:]):
                half = tuple(pair((number(a) + number(b)) / 2) for a, b in zip(one, other))
                heights = [number(height_of(plan, shapes)) for shapes in (one, half, other)]
                self.assertGreaterEqual(2 * heights[1], heights[0] + heights[2])

    def test_shapes_that_were_returned(self):
        for plan in SMALL[-3:] + TWELVE[:2]:
            shapes = kinds_of_shapes(len(plan), 9)[3]
            told = tuple(height if height[0] else (1, 1) for height in heights_of(plan, shapes))
            self.assertTrue(is_told_hanging(plan, told, hung(plan, told)))


if __name__ == "__main__":
    unittest.main()
