"""The search for the shape of one picture by which a wall is just so."""

import itertools
import unittest
from fractions import Fraction

from hungwall.justso import just_so, lies_between, middle_of, power_of_two
from hungwall.leastwidths import height_of
from hungwall.ownfits import HeightAim, own_shape
from hungwall.reshaping import reshaped, rises
from tests.helping import FIVE, FOUR, HungTest, grown_plan, kinds_of_shapes, mixed_plan
from tests.judge import number, pair

LONG = 10 ** 300 - 1
SOME = (
    (1, LONG), (1, 10 ** 20), (1, 1000), (1, 8), (1, 5), (1, 3), (1, 2), (2, 3), (3, 4), (9, 10), (1, 1), (10, 9), (4, 3), (3, 2), (2, 1),
    (3, 1), (4, 1), (5, 1), (8, 1), (17, 1), (1000, 1), (10 ** 20, 1), (LONG, 10 ** 150 + 1), (LONG, 1),
)


def same(many, top=1, bottom=1):
    return ((top, bottom),) * many


class Steps(HungTest):
    def test_powers(self):
        for size, want in ((0, (1, 1)), (1, (2, 1)), (-1, (1, 2)), (10, (1024, 1)), (-10, (1, 1024))):
            self.answers(want, power_of_two, size)

    def test_between(self):
        for ends in itertools.permutations(SOME, 2):
            low, high = sorted(number(end) for end in ends)
            for shape in SOME:
                self.answers(low < number(shape) < high, lies_between, ends, shape)

    def test_middles(self):
        for ends in itertools.permutations(SOME, 2):
            middle = middle_of(ends)
            self.assertTrue(lies_between(ends, middle))
            self.assertEqual(middle, middle_of(ends[::-1]))
            low, high = sorted(number(end) for end in ends)
            if high > 16 * low:
                # Far apart: as many times the one as the other is times it, but for a small factor.
                self.assertTrue(Fraction(1, 16) <= number(middle) ** 2 / (low * high) <= 16)
            elif high < 2 * low:
                self.assertEqual(2 * number(middle), low + high)


class JustSo(HungTest):
    def test_found(self):
        for plan, seed in ((FIVE, 1), (grown_plan(7, 2), 2), (mixed_plan(9, 3), 3)):
            for shapes in kinds_of_shapes(len(plan), seed)[:3]:
                picture = [k for k in range(len(plan)) if rises(plan, shapes, k)][-1]
                for want in ((1, 2), (7, 3), (19, 20)):
                    height = height_of(plan, reshaped(shapes, picture, want))
                    self.assert_exactly(just_so(plan, shapes, picture, ((1, 100), (100, 1)), HeightAim(height)), want)

    def test_height_of_no_end(self):
        # As long as the level slices stay as they are at the low end, the height stays below 3/2, and comes ever nearer.
        self.answers((5, 1), own_shape, FOUR, same(4), 0, (3, 2), (1, 20), (10 ** 6, 1))
        self.assertEqual(height_of(FOUR, ((5, 1),) + same(3)), (3, 2))
        for low in ((1, 20), (1, 3), (1, 1)):
            self.answers((5, 1), own_shape, FOUR, same(4), 0, (3, 2), low, (10 ** 6, 1))

    def test_far_ends(self):
        for seed in (31, 32, 41, 43):
            plan = mixed_plan(10, seed)
            for shapes in kinds_of_shapes(10, seed)[1:3]:
                for picture in range(0, 10, 3):
                    ends = [number(height_of(plan, reshaped(shapes, picture, end))) for end in ((1, LONG), (LONG, 1))]
                    height = pair((ends[0] + ends[1]) / 2)
                    shape = own_shape(plan, shapes, picture, height, (1, LONG), (LONG, 1))
                    self.assertEqual(height_of(plan, reshaped(shapes, picture, shape)), height)


if __name__ == "__main__":
    unittest.main()
