"""Points 73 to 75: stretches, the heights by their ends, and the shape of one picture for a height."""

import random
import unittest
from fractions import Fraction

from hungwall.hanging import hung
from hungwall.leastwidths import height_of
from hungwall.ownfits import own_shape
from hungwall.points import points_in
from hungwall.ranges import raised_height, range_of
from hungwall.reshaping import reshaped, rises
from hungwall.stretches import highs_of, is_stretches, lies_in, lows_of
from tests.helping import (
    FIVE, NAMED, NOT_PLANS, NOT_POSITIVE, ONE, TUCKED, TWO, HungTest, grown_plans, kinds_of_shapes, mixed_plan,
    mixed_plans, not_pictures, not_shapes, quotient_of, spun_plans,
)
from tests.judge import number, pair

LONG = 10 ** 20 - 1
PLANS = NAMED + tuple(
    grown_plans(counts=(2, 3, 5, 9, 12), seeds=range(2)) + mixed_plans((6, 9, 12), range(2)) + spun_plans((6, 8), range(3))
)
ENDS = ((1, 2), (2, 1))
# What is no stretch of a picture.
NOT_STRETCHES = (
    None, True, 0, "", "12", (), [], ((1, 1),), ((1, 1), (1, 1), (1, 1)), [(1, 1), (2, 1)], ((2, 1), (1, 2)), ((3, 1), (2, 1)),
    ((1, 2), (1, 3)), (1, 2), ((1, 1), 2), (1, (1, 1)), ((1, 1), None), ((0, 1), (1, 1)), ((-1, 1), (1, 1)), ((2, 4), (1, 1)),
    ((1, 2), (2, 2)), ((True, 1), (1, 1)), ((1, 1), (True, 1)), ((1, 1), (1, True)), ((1, 1), [1, 1]), ([1, 1], (1, 1)),
    ((LONG, LONG - 1), (LONG - 1, LONG - 2))[::-1], ((0, 1), (0, 1)),
)
# What is no stretches, of however many pictures.
NEVER = (
    None, True, 0, "", "12", [], [ENDS], ENDS, (None,), (1,), (ENDS, None), (ENDS, [*ENDS]), ((1, 1), (1, 1)),
) + tuple((ENDS, part) for part in NOT_STRETCHES) + tuple((part, ENDS) for part in NOT_STRETCHES)


def same(many, top=1, bottom=1):
    return ((top, bottom),) * many


def stretches_of(many, seed):
    """Stretches of several kinds: all the same, ends that are equal, simple ones, long ones."""
    source = random.Random(seed)
    found = [(ENDS,) * many, ((ENDS[0], ENDS[0]),) * many]
    for figures in (1, 2, 20):
        pairs = [sorted((quotient_of(source, figures) for _ in "12"), key=number) for _ in range(many)]
        found.append(tuple(tuple(pair) for pair in pairs))
    mixed = [(low, low) if source.random() < 0.5 else (low, high) for low, high in found[2]]
    return found + [tuple(mixed), tuple((pair[0], (LONG, 1)) for pair in found[3])]


def between(low, high, share):
    """The quotient at a share of the way from one to another."""
    return pair(number(low) + (number(high) - number(low)) * Fraction(*share))


class Stretches(HungTest):
    def test_is_stretches(self):
        for many in (0, 1, 2, 5, 40):
            for stretches in stretches_of(many, many):
                self.answers(True, is_stretches, many, stretches)
                self.answers(False, is_stretches, many + 1, stretches)
                self.answers(False, is_stretches, many, list(stretches))
            self.answers(False, is_stretches, many + 1, ((ENDS,) * many))
        self.answers(True, is_stretches, 0, ())
        self.answers(False, is_stretches, 1, ())
        self.answers(True, is_stretches, 1, (((LONG - 1, LONG), (LONG, LONG + 1)),))
        self.answers(True, is_stretches, 1, (((1, 1), (1, 1)),))
        for value in NOT_STRETCHES:
            self.assertIs(is_stretches(1, (value,)), False)
        for value in NEVER:
            for many in (0, 1, 2):
                self.assertIs(is_stretches(many, value), False)
        self.assertIs(is_stretches(many=1, thing=(ENDS,)), True)

    def test_ends(self):
        for many in (0, 1, 2, 5, 12, 40):
            for stretches in stretches_of(many, 3 * many):
                self.answers(tuple(pair[0] for pair in stretches), lows_of, stretches)
                self.answers(tuple(pair[1] for pair in stretches), highs_of, stretches)
        self.answers((), lows_of, ())
        self.answers((), highs_of, ())
        self.assert_exactly((lows_of(stretches=(ENDS,)), highs_of(stretches=(ENDS,))), (((1, 2),), ((2, 1),)))

    def test_lies_in(self):
        self.answers(True, lies_in, (), ())
        for many in (1, 2, 5, 12):
            for stretches in stretches_of(many, many):
                lows, highs = lows_of(stretches), highs_of(stretches)
                middles = tuple(between(low, high, (1, 3)) for low, high in stretches)
                for shapes in (lows, highs, middles):
                    self.answers(True, lies_in, stretches, shapes)
                    for picture, (low, high) in enumerate(stretches):
                        for wrong in (number(low) * Fraction(LONG - 1, LONG), number(high) * Fraction(LONG, LONG - 1)):
                            self.answers(False, lies_in, stretches, reshaped(shapes, picture, pair(wrong)))
        self.assert_exactly(lies_in(stretches=(ENDS,), shapes=((1, 1),)), True)

    def test_wrong(self):
        numbers = (None, True, False, -1, "", "1", (), (1,), [1], 1.0)
        self.refuses(is_stretches, {"many": 1, "thing": (ENDS,)}, {"many": numbers})
        self.not_usable("many", is_stretches, True, (ENDS,))
        self.refuses(lows_of, {"stretches": ()}, {"stretches": NEVER})
        self.refuses(highs_of, {"stretches": ()}, {"stretches": NEVER})
        good = {"stretches": (ENDS,) * 5, "shapes": same(5)}
        self.refuses(lies_in, good, {"stretches": NEVER, "shapes": not_shapes(5)})


class Ranges(HungTest):
    def test_all(self):
        for at, plan in enumerate(PLANS):
            many = len(plan)
            for stretches in stretches_of(many, at):
                lows, highs = lows_of(stretches), highs_of(stretches)
                ends = (height_of(plan, lows), height_of(plan, highs))
                self.answers(ends, range_of, plan, stretches)
                before = ends[0]
                for count in range(many + 1):
                    height = height_of(plan, highs[:count] + lows[count:])
                    self.answers(height, raised_height, plan, stretches, count)
                    self.assertLessEqual(number(before), number(height))
                    before = height
                self.assertEqual((raised_height(plan, stretches, 0), height), ends)

    def test_edges(self):
        self.answers(((1, 2), (2, 1)), range_of, ONE, (ENDS,))
        self.answers(((1, 2), (1, 2)), range_of, ONE, ((ENDS[0], ENDS[0]),))
        self.answers((2, 1), raised_height, ONE, (ENDS,), 1)
        self.answers((1, 2), raised_height, ONE, (ENDS,), 0)
        # The second picture is always a point.
        self.answers((2, 1), raised_height, TUCKED, (ENDS, ENDS), 1)
        self.answers((2, 1), raised_height, TUCKED, (ENDS, ENDS), 2)
        self.assert_exactly(range_of(plan=TWO, stretches=(ENDS,) * 2), ((1, 4), (1, 1)))
        self.assert_exactly(raised_height(plan=TWO, stretches=(ENDS,) * 2, count=1), (2, 5))

    def test_wrong(self):
        wrong = {
            "plan": NOT_PLANS, "stretches": NEVER + ((), (ENDS,) * 4, (ENDS,) * 6),
            "count": (None, True, False, -1, 6, 10 ** 30, "", "1", (), (1,), [1]),
        }
        good = {"plan": FIVE, "stretches": (ENDS,) * 5, "count": 5}
        self.refuses(raised_height, good, wrong)
        del good["count"]
        self.refuses(range_of, good, wrong)


class OwnShapes(HungTest):
    def leads_there(self, plan, shapes, picture, height, low, high):
        """The least shape within the ends by which the wall has the height, or None where none has."""
        got = own_shape(plan, shapes, picture, height, low, high)
        ends = [height_of(plan, reshaped(shapes, picture, end)) for end in (low, high)]
        fits = number(ends[0]) <= number(height) <= number(ends[1])
        self.assertEqual(got is not None, fits)
        if fits:
            self.answers(got, own_shape, plan, shapes, picture, height, low, high)
            self.assertTrue(number(low) <= number(got) <= number(high))
            self.assertEqual(height_of(plan, reshaped(shapes, picture, got)), height)
        return got

    def test_all(self):
        for at, plan in enumerate(PLANS):
            many = len(plan)
            source = random.Random(at)
            for shapes, stretches in zip(kinds_of_shapes(many, at), stretches_of(many, at)[2:]):
                picture = source.randrange(many)
                low, high = stretches[picture]
                ends = [height_of(plan, reshaped(shapes, picture, end)) for end in (low, high)]
                for share in ((0, 1), (1, 1), (1, 2), (1, 1000), (source.randrange(1, 1000), 1000), (-1, 10 ** 9)):
                    for height in (between(ends[0], ends[1], share), between(ends[1], ends[0], share)):
                        if height[0] > 0:
                            self.leads_there(plan, shapes, picture, height, low, high)

    def test_no_other(self):
        # The shape from which a height came is the only one where the picture is no point; the least where it is.
        for at, plan in enumerate(PLANS):
            source = random.Random(at)
            for shapes in kinds_of_shapes(len(plan), at):
                for picture in range(0, len(plan), 3):
                    height = height_of(plan, shapes)
                    # The own shape in shapes does not matter.
                    others = reshaped(shapes, picture, quotient_of(source, 20))
                    want = shapes[picture] if rises(plan, shapes, picture) else (1, LONG)
                    self.answers(want, own_shape, plan, others, picture, height, (1, LONG), (LONG, 1))

    def test_many_ways(self):
        # Between the ends the level slices change again and again.
        for seed in range(12):
            plan = mixed_plan(12, seed)
            shapes = kinds_of_shapes(12, seed)[1 + seed % 3]
            picture = [k for k in range(12) if rises(plan, shapes, k)][seed % 2]
            ends = [height_of(plan, reshaped(shapes, picture, end)) for end in ((1, LONG), (LONG, 1))]
            for share in ((1, 7), (1, 2), (99, 100)):
                self.leads_there(plan, shapes, picture, between(ends[0], ends[1], share), (1, LONG), (LONG, 1))

    def test_ends(self):
        shapes = ((2, 1),) + same(4)
        for picture in range(5):
            low, high = (1, 3), (5, 2)
            ends = [height_of(FIVE, reshaped(shapes, picture, end)) for end in (low, high)]
            self.answers(low, own_shape, FIVE, shapes, picture, ends[0], low, high)
            self.answers(high, own_shape, FIVE, shapes, picture, ends[1], low, high)
            for height, share in ((ends[0], Fraction(LONG - 1, LONG)), (ends[1], Fraction(LONG, LONG - 1))):
                self.answers(None, own_shape, FIVE, shapes, picture, pair(number(height) * share), low, high)
            # Just one shape, which may lead there.
            self.answers(low, own_shape, FIVE, shapes, picture, ends[0], low, low)
            self.answers(None, own_shape, FIVE, shapes, picture, ends[1], low, low)

    def test_edges(self):
        self.answers((5, 7), own_shape, ONE, same(1), 0, (5, 7), (1, 2), (1, 1))
        self.answers(None, own_shape, ONE, same(1), 0, (5, 7), (3, 4), (1, 1))
        # The height does not depend on the shape of a point.
        self.answers((1, 2), own_shape, TUCKED, same(2), 1, (1, 1), (1, 2), (3, 1))
        self.answers(None, own_shape, TUCKED, same(2), 1, (1, 2), (1, 2), (3, 1))
        self.answers(None, own_shape, TUCKED, same(2), 1, (3, 1), (1, 2), (3, 1))
        self.answers((1, 2), own_shape, FIVE, same(5), 4, (1, 1), (1, 2), (3, 1))
        self.answers(None, own_shape, FIVE, same(5), 4, (2, 1), (1, 2), (3, 1))
        # Beside a picture of shape 1 the height stays below 1.
        self.answers(None, own_shape, TWO, same(2), 0, (1, 1), (1, LONG), (LONG, 1))
        self.answers((LONG - 1, 1), own_shape, TWO, same(2), 0, (LONG - 1, LONG), (1, LONG), (LONG, 1))
        call = {"plan": TWO, "shapes": same(2), "picture": 0, "height": (2, 3), "low": (1, 2), "high": (3, 1)}
        self.assert_exactly(own_shape(**call), (2, 1))

    def test_point_by_some(self):
        # The middle picture is a point by one shape of the first picture alone; the height rises through it.
        heights = [height_of(FIVE, reshaped(same(5), 0, pair(Fraction(k, 4)))) for k in (2, 3, 4, 5, 6)]
        for k, height in zip((2, 3, 4, 5, 6), heights):
            self.answers(pair(Fraction(k, 4)), own_shape, FIVE, same(5), 0, height, (1, LONG), (LONG, 1))
        self.assertEqual(points_in(FIVE, reshaped(same(5), 0, (1, 1))), (4,))
        self.assertEqual(points_in(FIVE, reshaped(same(5), 0, (5, 4))), ())
        self.assertEqual(hung(FIVE, same(5))[0], heights[2])

    def test_wrong(self):
        good = {"plan": FIVE, "shapes": same(5), "picture": 0, "height": (1, 1), "low": (1, 2), "high": (3, 1)}
        wrong = {
            "plan": NOT_PLANS, "shapes": not_shapes(5), "picture": not_pictures(5), "height": NOT_POSITIVE,
            "low": NOT_POSITIVE, "high": NOT_POSITIVE + ((1, 3), (LONG - 1, 2 * LONG)),
        }
        self.refuses(own_shape, good, wrong)


if __name__ == "__main__":
    unittest.main()
