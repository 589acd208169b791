"""Points 69 and 70: what a wall tells of other shapes; and what points 11 and 72 say of these."""

import random
import unittest

from hungwall.brackets import bracket, same_heights, same_widths
from hungwall.hanging import hung
from hungwall.leastwidths import height_of, heights_of, widths_of
from hungwall.points import points_in
from hungwall.quotients import times
from hungwall.reshaping import reshaped, rises
from tests.helping import (
    FIVE, FOUR, NAMED, NOT_PLANS, NOT_POSITIVE, ONE, TUCKED, TWO, HungTest, grown_plans, kinds_of_shapes, mixed_plans,
    not_pictures, not_rows, not_shapes, pile, quotient_of, spun_plans,
)
from tests.judge import number, pair

PLANS = NAMED + tuple(
    grown_plans(counts=(2, 3, 5, 9, 12), seeds=range(2)) + mixed_plans((6, 9, 12), range(2)) + spun_plans((6, 8), range(4))
)
LONG = 10 ** 20 - 1


def same(many, top=1, bottom=1):
    return ((top, bottom),) * many


def numbers(row):
    return [number(part) for part in row]


def told_bracket(plan, shapes, others):
    """The bracket, by fractions."""
    w, z, h = numbers(widths_of(plan, shapes)), numbers(heights_of(plan, shapes)), number(height_of(plan, shapes))
    t = numbers(others)
    return pair(h * h / sum(b * b / c for b, c in zip(z, t))), pair(sum(a * a * c for a, c in zip(w, t)))


def in_one_proportion(ones, others):
    """Whether a positive number leads from each of the ones to the other at its index."""
    factors = [other / one for one, other in zip(ones, others) if one > 0]
    return factors[0] > 0 and all(one * factors[0] == other for one, other in zip(ones, others))


def pairs_of_shapes(plan, seed):
    """Pairs of shapes of a plan: of different kinds, equal, in proportion, and alike but for points or for one."""
    source = random.Random(seed)
    kinds = kinds_of_shapes(len(plan), seed)
    found = list(zip(kinds, kinds[1:])) + [(kinds[3], kinds[3])]
    factor = quotient_of(source, 2)
    found.append((kinds[2], tuple(times(shape, factor) for shape in kinds[2])))
    for shapes in kinds[:3]:
        points = points_in(plan, shapes)
        found.append((shapes, tuple(quotient_of(source, 20) if k in points else q for k, q in enumerate(shapes))))
        picture = source.randrange(len(plan))
        found.append((shapes, shapes[:picture] + ((7, 3),) + shapes[picture + 1:]))
        # By shapes over the squares of widths, or times those of heights, either stay in proportion or do not.
        w = numbers(widths_of(plan, shapes))
        found.append((shapes, tuple(pair(number(s) * (1 + k)) for k, s in enumerate(shapes))))
        found.append((shapes, tuple(pair(number(s) * (width or 1)) for s, width in zip(shapes, w))))
    return found


class Brackets(HungTest):
    def test_all(self):
        seen = {}
        for at, plan in enumerate(PLANS):
            for shapes, others in pairs_of_shapes(plan, at):
                want = told_bracket(plan, shapes, others)
                self.answers(want, bracket, plan, shapes, others)
                widths = widths_of(plan, shapes) == widths_of(plan, others)
                heights = in_one_proportion(numbers(heights_of(plan, shapes)), numbers(heights_of(plan, others)))
                self.answers(widths, same_widths, plan, shapes, others)
                self.answers(heights, same_heights, plan, shapes, others)
                self.within(plan, others, want, heights, widths)
                seen[heights, widths] = True
        self.assertEqual(len(seen), 4)

    def within(self, plan, others, ends, heights, widths):
        """The height by others is in the bracket, and at an end of it just where it should be."""
        low, high = numbers(ends)
        height = number(height_of(plan, others))
        self.assertTrue(low <= height <= high)
        self.assertEqual((low == height, height == high), (heights, widths))

    def test_stretched(self):
        for plan in PLANS[::3]:
            for shapes in kinds_of_shapes(len(plan), 5)[1:4]:
                factor = (3, 7)
                height = times(height_of(plan, shapes), factor)
                more = tuple(times(shape, factor) for shape in shapes)
                self.answers((height, height), bracket, plan, shapes, more)
                self.assert_exactly((same_widths(plan, shapes, more), same_heights(plan, shapes, more)), (True, True))

    def test_half_way(self):
        for at, plan in enumerate(PLANS):
            kinds = kinds_of_shapes(len(plan), at)
            for shapes, others in zip(kinds, kinds[2:]):
                half = tuple(pair((number(a) + number(b)) / 2) for a, b in zip(shapes, others))
                both = number(height_of(plan, shapes)) + number(height_of(plan, others))
                self.assertGreaterEqual(2 * number(height_of(plan, half)), both)

    def test_edges(self):
        self.answers(((LONG, 1), (LONG, 1)), bracket, ONE, ((1, LONG),), ((LONG, 1),))
        self.assert_exactly(bracket(plan=TWO, shapes=same(2), others=((1, 1), (3, 1))), ((3, 4), (1, 1)))
        self.answers(True, same_widths, TUCKED, same(2), ((1, 1), (5, 1)))
        self.answers(True, same_heights, TUCKED, same(2), ((1, 1), (5, 1)))
        # A point by the ones that has size by the others.
        other = ((2, 1),) + same(4)
        self.answers(False, same_heights, FIVE, same(5), other)
        self.answers(False, same_heights, FIVE, other, same(5))
        self.answers(False, same_widths, FIVE, other, same(5))
        self.answers(True, same_widths, pile(3), same(3), ((1, 1), (2, 1), (3, 1)))
        self.answers(False, same_heights, pile(3), same(3), ((1, 1), (2, 1), (3, 1)))
        self.assert_exactly(same_widths(plan=TWO, shapes=same(2), others=same(2, 2)), True)
        self.assert_exactly(same_heights(plan=TWO, shapes=same(2), others=same(2, 2)), True)

    def test_wrong(self):
        good = {"plan": FIVE, "shapes": same(5), "others": same(5, 1, 3)}
        wrong = {"plan": NOT_PLANS, "shapes": not_shapes(5), "others": not_shapes(5)}
        for call in (bracket, same_widths, same_heights):
            self.refuses(call, good, wrong)


class Reshaping(HungTest):
    def test_reshaped(self):
        for many in (1, 2, 7, 12):
            for shapes in kinds_of_shapes(many, many):
                for picture in range(many):
                    want = list(shapes)
                    want[picture] = (22, 7)
                    self.answers(tuple(want), reshaped, shapes, picture, (22, 7))
        self.assert_exactly(reshaped(shapes=same(2), picture=1, shape=(3, 1)), ((1, 1), (3, 1)))
        self.answers(((5, 9),), reshaped, same(1), 0, (5, 9))

    def test_rises(self):
        for at, plan in enumerate(PLANS):
            for shapes in kinds_of_shapes(len(plan), at)[:4]:
                points = points_in(plan, shapes)
                height, widths = number(height_of(plan, shapes)), numbers(widths_of(plan, shapes))
                for picture in range(len(plan)):
                    self.answers(picture not in points, rises, plan, shapes, picture)
                for picture in (0, len(plan) - 1):
                    for more in (1, 1000):
                        new = reshaped(shapes, picture, pair(number(shapes[picture]) + more))
                        gain = number(height_of(plan, new)) - height
                        self.assertEqual(gain > 0, picture not in points)
                        self.assertLessEqual(gain, more * widths[picture] ** 2)
                        self.assertGreaterEqual(gain, more * number(widths_of(plan, new)[picture]) ** 2)

    def test_points(self):
        source = random.Random(8)
        for plan in PLANS + (FIVE, TUCKED):
            for shapes in (same(len(plan)), tuple(quotient_of(source, 1) for _ in plan)):
                points = points_in(plan, shapes)
                others = tuple(quotient_of(source, 9) if k in points else q for k, q in enumerate(shapes))
                self.assertEqual(hung(plan, shapes), hung(plan, others))
                self.assertEqual(points_in(plan, others), points)

    def test_edges(self):
        self.answers(True, rises, ONE, same(1), 0)
        self.answers(False, rises, TUCKED, same(2), 1)
        self.answers(False, rises, FIVE, same(5), 4)
        self.answers(True, rises, FIVE, ((2, 1),) + same(4), 4)
        self.assert_exactly(rises(plan=FOUR, shapes=same(4), picture=3), True)

    def test_wrong(self):
        good = {"shapes": same(5), "picture": 4, "shape": (7, 3)}
        rows = tuple(row for row in not_rows(5) if row not in (((1, 1),), same(6), same(4))) + (same(4) + ((0, 1),),)
        self.refuses(reshaped, good, {"shapes": rows, "picture": not_pictures(5), "shape": NOT_POSITIVE})
        good = {"plan": FIVE, "shapes": same(5), "picture": 4}
        self.refuses(rises, good, {"plan": NOT_PLANS, "shapes": not_shapes(5), "picture": not_pictures(5)})


if __name__ == "__main__":
    unittest.main()
