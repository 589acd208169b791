"""Points 58 to 61: walls put together and taken apart, boxes joined and parted, walls painted."""

import itertools
import unittest
from fractions import Fraction

from hungwall.boxjoins import joined_boxes, makes_box, parted_boxes
from hungwall.cuts import cut_at, free_abscissas, free_heights
from hungwall.growing import can_join, joined
from hungwall.hanging import hung
from hungwall.painting import painted
from hungwall.piles import piled, put_beside
from hungwall.walls import is_hanging, sizes_in
from hungwall.wallturns import flipped_boxes, mirrored_boxes, turned_boxes
from tests.fillings import FILLINGS, HALF, NOT_WALLS, ONE_BOX, POINT_BOX, POINTED, filling_of
from tests.helping import (
    FIVE, FOUR, NAMED, NOT_POSITIVE, HungTest, grown_plans, kinds_of_shapes, mixed_plans, not_pictures,
)
from tests.judge import common, is_sized, is_told_wall, number, pair, pairs, spans

WALLS = FILLINGS + POINTED + [ONE_BOX, HALF, POINT_BOX]
FEW = [wall for wall in WALLS if len(wall[1]) <= 6]
GRID = hung(FOUR, ((1, 1),) * 4)
SPIN = hung(FIVE, ((2, 1),) + ((1, 1),) * 4)
PLANS = NAMED + tuple(grown_plans(counts=(2, 3, 4, 5, 8), seeds=range(3)) + mixed_plans((4, 6, 8), range(4)))
LONG = (10 ** 300 - 1, 10 ** 299 + 7)


def told_boxes(wall):
    """The boxes of a wall as quadruples of fractions."""
    return [tuple(number(part) for part in box) for box in wall[1]]


class Piles(HungTest):
    def test_both(self):
        for one, other in itertools.product(FEW[::4], FEW[1::5]):
            g, h = number(one[0]), number(other[0])
            upper = [(left, floor + h, width, height) for left, floor, width, height in told_boxes(one)]
            want = (pair(g + h), tuple(pairs(box) for box in upper + told_boxes(other)))
            self.answers(want, piled, one, other)
            self.assertTrue(is_told_wall(want))
            lefts = [tuple(part * h / (g + h) for part in box) for box in told_boxes(one)]
            rights = [tuple(part * g / (g + h) for part in box) for box in told_boxes(other)]
            rights = [(left + h / (g + h), floor, width, height) for left, floor, width, height in rights]
            want = (pair(g * h / (g + h)), tuple(pairs(box) for box in lefts + rights))
            self.answers(want, put_beside, one, other)
            self.assertTrue(is_told_wall(want))

    def test_turned(self):
        for one, other in itertools.product(FEW[::5], FEW[2::7]):
            # What is on the left comes above by a turn.
            self.assertEqual(turned_boxes(put_beside(one, other)), piled(turned_boxes(one), turned_boxes(other)))
            self.assertEqual(mirrored_boxes(piled(one, other)), piled(mirrored_boxes(one), mirrored_boxes(other)))

    def test_wrong(self):
        for call in (piled, put_beside):
            self.refuses(call, {"one": HALF, "other": ONE_BOX}, {"one": NOT_WALLS, "other": NOT_WALLS})


class Cuts(HungTest):
    def test_free(self):
        for wall in WALLS:
            sized = [spans(box) for box in wall[1] if is_sized(box)]
            for at, call, end in ((1, free_heights, number(wall[0])), (0, free_abscissas, Fraction(1))):
                ends = sorted({part for span in sized for part in span[at]})
                free = [q for q in ends if 0 < q < end and not any(span[at][0] < q < span[at][1] for span in sized)]
                self.answers(pairs(free), call, wall)

    def test_cuts(self):
        seen = 0
        for wall in WALLS:
            sized = sizes_in(wall)
            for height in free_heights(wall):
                seen += 1
                above, upper, below, lower = cut_at(wall, height)
                self.answers((above, upper, below, lower), cut_at, wall, height)
                self.assert_exactly(cut_at(wall=wall, height=height), (above, upper, below, lower))
                q = number(height)
                self.assertEqual(above, tuple(k for k in sized if number(wall[1][k][1]) >= q))
                self.assertEqual(below, tuple(k for k in sized if number(wall[1][k][1]) < q))
                self.assertEqual((number(upper[0]), lower[0]), (number(wall[0]) - q, height))
                self.assertTrue(is_told_wall(upper) and is_told_wall(lower))
                self.assertEqual(lower[1], tuple(wall[1][k] for k in below))
                back = piled(upper, lower)
                self.assertEqual(back, (wall[0], tuple(wall[1][k] for k in above + below)))
        self.assertGreater(seen, 20)

    def test_piled(self):
        for one, other in itertools.product([wall for wall in FILLINGS if len(wall[1]) <= 5], FILLINGS[:20:3]):
            many = len(one[1])
            both = piled(one, other)
            self.assertIn(other[0], free_heights(both))
            rest = tuple(range(many, many + len(other[1])))
            self.answers((tuple(range(many)), one, rest, other), cut_at, both, other[0])
            beside = put_beside(one, other)
            share = pair(number(other[0]) / (number(one[0]) + number(other[0])))
            self.assertIn(share, free_abscissas(beside))

    def test_ascending_as_numbers(self):
        wall = ((2, 1), tuple(((0, 1), pair(Fraction(k, 2)), (1, 1), (1, 2)) for k in (2, 0, 3, 1)))
        self.answers(((1, 2), (1, 1), (3, 2)), free_heights, wall)
        self.answers((), free_abscissas, wall)
        wall = ((1, 1), tuple((pair(Fraction(k, 6)), (0, 1), (1, 6), (1, 1)) for k in (4, 0, 3, 1, 5, 2)))
        self.answers(((1, 6), (1, 3), (1, 2), (2, 3), (5, 6)), free_abscissas, wall)

    def test_edges(self):
        for call in (free_heights, free_abscissas):
            self.answers((), call, ONE_BOX)
            self.answers((), call, POINT_BOX)
            self.answers((), call, SPIN)
            self.answers(((1, 2),), call, GRID)
        self.answers((), free_heights, HALF)
        self.answers(((1, 2),), free_abscissas, HALF)
        upper, lower = (((0, 1), (0, 1), (1, 2), (1, 2)), ((1, 2), (0, 1), (1, 2), (1, 2))), GRID[1][2:]
        self.answers(((0, 1), ((1, 2), upper), (2, 3), ((1, 2), lower)), cut_at, GRID, (1, 2))
        # Points are left out, one at the cut, too.
        wall = hung(FIVE, ((1, 1),) * 5)
        self.answers(((0, 1), ((1, 2), upper), (2, 3), ((1, 2), lower)), cut_at, wall, (1, 2))

    def test_wrong(self):
        heights = NOT_POSITIVE + ((1, 1), (1, 3), (2, 1), [1, 2], (2, 4), (True, 2), (1, 2, 1))
        self.refuses(cut_at, {"wall": GRID, "height": (1, 2)}, {"wall": NOT_WALLS, "height": heights})
        tall = piled(ONE_BOX, ONE_BOX)
        self.not_usable("height", cut_at, tall, (True, 1))
        self.not_usable("height", cut_at, tall, (1, True))
        self.not_usable("height", cut_at, tall, (2, 1))
        self.not_usable("height", cut_at, ONE_BOX, (1, 1))
        for call in (free_heights, free_abscissas):
            self.refuses(call, {"wall": GRID}, {"wall": NOT_WALLS})


class BoxJoins(HungTest):
    def told_box(self, wall, one, other):
        """The box that two boxes make up, by their common points; or None."""
        boxes = [wall[1][one], wall[1][other]]
        lengths = common(*boxes)
        if not all(is_sized(box) for box in boxes) or lengths is None or max(lengths) == 0:
            return None
        ends = [spans(box) for box in boxes]
        left, right = (pick(end[0][at] for end in ends) for pick, at in ((min, 0), (max, 1)))
        floor, top = (pick(end[1][at] for end in ends) for pick, at in ((min, 0), (max, 1)))
        area = sum(number(box[2]) * number(box[3]) for box in boxes)
        if (right - left) * (top - floor) != area:
            return None
        return pairs((left, floor, right - left, top - floor))

    def test_joined(self):
        seen = 0
        for wall in WALLS:
            for one, other in itertools.permutations(range(len(wall[1])), 2):
                want = self.told_box(wall, one, other)
                self.answers(want, makes_box, wall, one, other)
                if want is None:
                    self.not_usable("other", joined_boxes, wall, one, other)
                    continue
                seen += 1
                boxes = [want if k == min(one, other) else box for k, box in enumerate(wall[1])]
                del boxes[max(one, other)]
                self.answers((wall[0], tuple(boxes)), joined_boxes, wall, one, other)
        self.assertGreater(seen, 100)

    def test_parted(self):
        for wall in WALLS[::2]:
            for picture in sizes_in(wall)[::3]:
                left, floor, width, height = told_boxes(wall)[picture]
                for share in ((1, 2), (1, 3), (10 ** 300 - 1, 10 ** 300), (1, 10 ** 300)):
                    s = number(share)
                    parts = [(left, floor, width * s, height), (left + width * s, floor, width * (1 - s), height)]
                    self.parts_are(wall, picture, "left", share, parts)
                    parts = [(left, floor + height * (1 - s), width, height * s), (left, floor, width, height * (1 - s))]
                    self.parts_are(wall, picture, "above", share, parts)

    def parts_are(self, wall, picture, how, share, parts):
        boxes = list(wall[1]) + [pairs(parts[1])]
        boxes[picture] = pairs(parts[0])
        want = (wall[0], tuple(boxes))
        self.answers(want, parted_boxes, wall, picture, how, share)
        self.assertIs(is_hanging(want), True)
        # Joining undoes it.
        many = len(wall[1])
        self.assertEqual(joined_boxes(want, picture, many), wall)
        self.assertEqual(joined_boxes(want, many, picture), wall)

    def test_of_plans(self):
        seen = 0
        for plan in PLANS:
            for shapes in kinds_of_shapes(len(plan), 3)[:3]:
                wall = hung(plan, shapes)
                for one, other in itertools.combinations(range(len(plan)), 2):
                    if can_join(plan, one, other) and makes_box(wall, one, other) is not None:
                        seen += 1
                        new = joined_boxes(wall, one, other)
                        told = tuple(pair(number(box[3]) / number(box[2])) if is_sized(box) else (3, 1) for box in new[1])
                        self.assertEqual(hung(joined(plan, one, other), told), new)
        self.assertGreater(seen, 30)

    def test_edges(self):
        unit, half = (1, 1), (1, 2)
        self.answers(((0, 1), half, unit, half), makes_box, GRID, 1, 0)
        self.answers(((0, 1), (0, 1), half, unit), makes_box, GRID, 0, 3)
        # Boxes that touch in a corner alone make no box, nor does a point.
        for one, other in ((0, 2), (2, 0), (1, 3), (3, 1)):
            self.answers(None, makes_box, GRID, one, other)
            self.not_usable("other", joined_boxes, GRID, one, other)
        self.answers(None, makes_box, POINT_BOX, 0, 1)
        self.answers(None, makes_box, POINT_BOX, 1, 0)
        for one, other in itertools.permutations(range(5), 2):
            self.answers(None, makes_box, SPIN, one, other)
        self.answers(((0, 1), (0, 1), unit, unit), makes_box, HALF, 0, 1)
        self.answers(((1, 1), (((0, 1), (0, 1), unit, unit),)), joined_boxes, HALF, 1, 0)

    def test_wrong(self):
        pictures = not_pictures(4)
        good = {"wall": GRID, "one": 1, "other": 0}
        wrong = {"wall": NOT_WALLS, "one": pictures, "other": pictures + (1,)}
        self.refuses(makes_box, good, wrong)
        self.refuses(joined_boxes, good, {"wall": NOT_WALLS, "one": pictures, "other": pictures + (1, 3)})
        shares = NOT_POSITIVE + ((1, 1), (2, 1), (3, 2), (10 ** 300, 10 ** 300 - 1))
        hows = (None, True, 0, "", "right", "below", "Left", "level", ("left",), ["above"])
        good = {"wall": POINT_BOX, "picture": 1, "how": "left", "share": (1, 2)}
        wrong = {"wall": NOT_WALLS, "picture": not_pictures(2) + (0,), "how": hows, "share": shares}
        self.refuses(parted_boxes, good, wrong)


class Painting(HungTest):
    def told_painting(self, wall, rows, columns):
        height = number(wall[0])
        sized = [(k, spans(box)) for k, box in enumerate(wall[1]) if is_sized(box)]
        found = []
        for r in range(rows):
            signs = ""
            for c in range(columns):
                x, y = Fraction(2 * c + 1, 2 * columns), height * Fraction(2 * rows - 2 * r - 1, 2 * rows)
                here = [k for k, (across, up) in sized if across[0] <= x < across[1] and up[0] <= y < up[1]]
                self.assertEqual(len(here), 1)
                signs += "abcdefghijklmnopqrstuvwxyz"[here[0]]
            found.append(signs)
        return tuple(found)

    def test_all(self):
        for at, wall in enumerate(WALLS):
            for rows, columns in ((1, 1), (2, 2), (3, 4), (7, 5), (12, 1), (1, 14), (6, 6)):
                if (rows + columns + at) % 2 == 0:
                    self.answers(self.told_painting(wall, rows, columns), painted, wall, rows, columns)
        for wall in WALLS[::25]:
            self.answers(self.told_painting(wall, 40, 40), painted, wall, 40, 40)

    def test_edges(self):
        self.answers(("a",), painted, ONE_BOX, 1, 1)
        # Lines at the borders count what they enter: the right, the upper box.
        self.answers(("b",), painted, HALF, 1, 1)
        self.answers(("b",), painted, GRID, 1, 1)
        self.answers(("ab", "dc"), painted, GRID, 2, 2)
        self.answers(("abb", "abb", "dcc"), painted, GRID, 3, 3)
        self.answers(("b" * 40,) * 40, painted, POINT_BOX, 40, 40)
        # The letters of points are left out.
        self.answers(("abbb", "abbb", "ddcc"), painted, SPIN, 3, 4)
        self.answers(("ab", "dc"), painted, hung(FIVE, ((1, 1),) * 5), 2, 2)

    def test_turned(self):
        for wall in FILLINGS[::5]:
            # Signs whose points are on no border go with the boxes.
            rows = painted(wall, 11, 13)
            edges = {end for box in wall[1] for end in spans(box)[0]}
            floors = {end / number(wall[0]) for box in wall[1] for end in spans(box)[1]}
            if any(2 * 13 * end % 2 == 1 for end in edges) or any(2 * 11 * end % 2 == 1 for end in floors):
                continue
            self.assertEqual(painted(mirrored_boxes(wall), 11, 13), tuple(row[::-1] for row in rows))
            self.assertEqual(painted(flipped_boxes(wall), 11, 13), rows[::-1])

    def test_twelve(self):
        wall = filling_of(12, 77)
        self.assertEqual(set("".join(painted(wall, 40, 40))) - set("abcdefghijkl"), set())
        pile = ((12, 1), tuple(((0, 1), (11 - k, 1), (1, 1), (1, 1)) for k in range(12)))
        self.answers(tuple("abcdefghijkl"), painted, pile, 12, 1)

    def test_wrong(self):
        counts = (None, True, False, 0, -1, 41, 10 ** 30, "", "3", (), (3,), [3], (3, 1), 2.0)
        good = {"wall": GRID, "rows": 3, "columns": 4}
        self.refuses(painted, good, {"wall": NOT_WALLS, "rows": counts, "columns": counts})


if __name__ == "__main__":
    unittest.main()
