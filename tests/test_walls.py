"""Point 48: boxes and walls."""

import itertools
import unittest

from hungwall.hanging import hung
from hungwall.walls import has_points, is_box, is_hanging, shapes_in, sizes_in
from tests.fillings import FILLINGS, FORTY, HALF, NOT_WALLS, ONE_BOX, POINT_BOX, POINTED, changed
from tests.helping import NOT_POSITIVE, TUCKED, HungTest, grown_plans, kinds_of_shapes, mixed_plans
from tests.judge import is_sized, is_told_box, is_told_wall, number, pair

LONG = (10 ** 300 - 1, 10 ** 299)


class Boxes(HungTest):
    def test_parts(self):
        parts = ((0, 1), (1, 2), (3, 1), (-1, 2), LONG)
        for box in itertools.product(parts, repeat=4):
            self.answers(is_told_box(box), is_box, box)
        self.answers(True, is_box, ((0, 1),) * 4)
        self.answers(False, is_box, ((0, 1), (0, 1), (1, 1), (0, 1)))
        self.answers(False, is_box, ((0, 1), (0, 1), (0, 1), (1, 1)))

    def test_any_value(self):
        box = ((0, 1), (0, 1), (1, 2), (1, 3))
        self.answers(True, is_box, box)
        things = (None, True, 0, "", (), [], list(box), box[:3], box + ((1, 1),), (box,), (0, 0, 1, 1), "0011", 10 ** 50)
        for thing in things + tuple(thing for thing in NOT_WALLS if thing != ONE_BOX[1][0]):
            self.answers(False, is_box, thing)
        for at, part in itertools.product(range(4), NOT_POSITIVE):
            # Nought may be the left and the floor.
            if at > 1 or part != (0, 1):
                self.answers(False, is_box, box[:at] + (part,) + box[at + 1:])


class Walls(HungTest):
    def test_fillings(self):
        for wall in FILLINGS + FORTY + [ONE_BOX, HALF]:
            self.answers(True, is_hanging, wall)
            self.answers(False, has_points, wall)
            self.answers(tuple(range(len(wall[1]))), sizes_in, wall)
            shapes = tuple(pair(number(box[3]) / number(box[2])) for box in wall[1])
            self.answers(shapes, shapes_in, wall)
            self.assert_exactly(shapes_in(filling=wall), shapes)

    def test_points(self):
        for wall in POINTED + [POINT_BOX]:
            self.answers(True, is_hanging, wall)
            self.answers(True, has_points, wall)
            self.answers(tuple(k for k, box in enumerate(wall[1]) if is_sized(box)), sizes_in, wall)
            self.not_usable("filling", shapes_in, wall)
            self.not_usable("filling", shapes_in, filling=wall)

    def test_no_walls(self):
        for thing in NOT_WALLS:
            self.answers(False, is_hanging, thing)
        for wall in FILLINGS[::3] + POINTED[::3]:
            for picture, at in itertools.product(range(len(wall[1])), range(4)):
                for part in ((0, 1), (1, 2), (2, 3), (5, 1), LONG):
                    told = changed(wall, picture, at, part)
                    self.answers(is_told_wall(told), is_hanging, told)
            self.answers(False, is_hanging, (wall[0], wall[1][:-1] + wall[1][:1] * 2))
            self.answers(False, is_hanging, (pair(number(wall[0]) * 2), wall[1]))

    def test_forty(self):
        for wall in FORTY:
            for picture in range(0, 40, 7):
                width = number(wall[1][picture][2])
                for part in (width / 2, width * 2):
                    self.answers(False, is_hanging, changed(wall, picture, 2, pair(part)))

    def test_hung(self):
        for plan in grown_plans(seeds=range(3)) + mixed_plans((6, 9, 12), range(3)):
            for shapes in kinds_of_shapes(len(plan), 1):
                wall = hung(plan, shapes)
                self.answers(True, is_hanging, wall)
                sized = sizes_in(wall)
                self.assert_exactly(has_points(wall), len(sized) < len(plan))
                if len(sized) == len(plan):
                    self.answers(shapes, shapes_in, wall)
        self.answers((0,), sizes_in, hung(TUCKED, ((1, 1), (1, 1))))

    def test_wrong(self):
        for call in (has_points, sizes_in):
            self.refuses(call, {"wall": POINT_BOX}, {"wall": NOT_WALLS})
        self.refuses(shapes_in, {"filling": HALF}, {"filling": NOT_WALLS + (POINT_BOX,)})


if __name__ == "__main__":
    unittest.main()
