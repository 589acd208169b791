"""Point 62: a filling kept as an object."""

import unittest

from hungwall.borders import borders_of
from hungwall.crossings import crossings_of
from hungwall.fillclasses import Filled
from hungwall.hanging import hung
from hungwall.painting import painted
from hungwall.readbacks import plan_in
from hungwall.slices import level_slices, upright_slices
from hungwall.walls import shapes_in
from tests.fillings import FILLINGS, HALF, NOT_WALLS, ONE_BOX, POINT_BOX, POINTED
from tests.helping import FIVE, FOUR, NOT_KINDS, HungTest

NOT_SLANTS = (None, True, 0, "", "Falling", "falling ", "level", ("falling",), ["rising"])


class TheClass(HungTest):
    def test_all(self):
        for filling in FILLINGS + [ONE_BOX, HALF]:
            held = Filled(filling=filling)
            self.assert_exactly((held.tall, held.many), (filling[0], len(filling[1])))
            self.answers(level_slices(filling), held.slices, "level")
            self.answers(upright_slices(filling), held.slices, "upright")
            self.answers(borders_of(filling), held.borders)
            self.answers(crossings_of(filling), held.crossings)
            for slant in ("falling", "rising"):
                self.answers(plan_in(filling, slant), held.plan_by, slant)
                self.assertEqual(hung(held.plan_by(slant), held.shapes_told()), filling)
            self.answers(shapes_in(filling), held.shapes_told)
            for rows, columns in ((1, 1), (3, 5)):
                self.answers(painted(filling, rows, columns), held.paint, rows, columns)
            self.assert_exactly((held.tall, held.many), (filling[0], len(filling[1])))

    def test_names(self):
        held = Filled(hung(FOUR, ((1, 1),) * 4))
        self.assert_exactly(held.slices(kind="level"), (((3, 2), (1, 2)), ((0, 1), (1, 2))))
        self.assert_exactly(held.slices(kind="upright"), (((0, 3), (1, 2)), ((1, 2), (1, 2))))
        self.assert_exactly(held.crossings(), ((0, 1, 2, 3),))
        self.assert_exactly(held.plan_by(slant="falling"), FOUR)
        self.assert_exactly(held.paint(rows=2, columns=2), ("ab", "dc"))

    def test_wrong(self):
        self.refuses(Filled, {"filling": HALF}, {"filling": NOT_WALLS + tuple(POINTED[:5])})
        self.not_usable("filling", Filled, POINT_BOX)
        self.not_usable("filling", Filled, hung(FIVE, ((1, 1),) * 5))
        held = Filled(HALF)
        counts = (None, True, False, 0, -1, 41, "", "3", (), [3])
        self.refuses(held.slices, {"kind": "level"}, {"kind": NOT_KINDS})
        self.refuses(held.plan_by, {"slant": "rising"}, {"slant": NOT_SLANTS})
        self.refuses(held.paint, {"rows": 3, "columns": 40}, {"rows": counts, "columns": counts})
        self.assert_exactly((held.tall, held.many), ((1, 1), 2))


if __name__ == "__main__":
    unittest.main()
