"""Point 22: the class Plan."""

import itertools
import unittest

from hungwall.faces import faces_of
from hungwall.planclasses import Plan
from hungwall.plantexts import plan_line
from hungwall.ties import are_tied, row_of
from tests.helping import (
    FIVE, FOUR, NAMED, NOT_PLANS, ONE, SIDES, HungTest, grown_plan, grown_plans, not_pictures, not_places, pile,
    places_of,
)


class Plans(HungTest):
    def test_attributes(self):
        for circles in NAMED + (grown_plan(40, 5), pile(40)):
            plan = Plan(circles)
            self.assert_exactly(plan.circles, circles)
            self.assert_exactly(plan.many, len(circles))
            self.assertEqual(len(plan), len(circles))

    def test_answers(self):
        for circles in NAMED + tuple(grown_plans(seeds=range(2))):
            plan = Plan(circles=circles)
            for one, other in itertools.product(places_of(circles), repeat=2):
                self.answers(are_tied(circles, one, other), plan.tied, one, other)
            for picture, circle in enumerate(circles):
                self.answers(circle, plan.circle, picture)
            for side in SIDES:
                self.answers(row_of(circles, side), plan.row, side)
            self.answers(faces_of(circles), plan.faces)
            self.answers(plan_line(circles), plan.as_line)

    def test_equal(self):
        self.assertTrue(Plan(FOUR) == Plan(tuple(list(FOUR))))
        self.assertFalse(Plan(FOUR) != Plan(FOUR))
        for other in (FOUR, Plan(FIVE), Plan(ONE), None, 4, "plan", [FOUR], plan_line(FOUR)):
            self.assertFalse(Plan(FOUR) == other)
            self.assertTrue(Plan(FOUR) != other)

    def test_in(self):
        for circles in NAMED:
            plan = Plan(circles)
            for pair in itertools.product(places_of(circles), repeat=2):
                self.assertIs(pair in plan, are_tied(circles, *pair))
        plan = Plan(FOUR)
        things = (
            None, True, 0, "", "03", (), (0,), (0, 3, 1), [0, 3], (0, True), (True, 0), (False, 3), (0, "3"),
            (0, 4), (0, -5), (0, (3,)), (0, [3]), ((0, 3),), plan, (plan, 0), (None, None), 10 ** 50,
        )
        for thing in things:
            self.assertIs(thing in plan, False)

    def test_wrong(self):
        self.refuses(Plan, {"circles": FIVE}, {"circles": NOT_PLANS + (Plan(FIVE),)})
        plan = Plan(FIVE)
        self.refuses(plan.tied, {"one": 0, "other": 4}, {"one": not_places(5), "other": not_places(5)})
        self.refuses(plan.circle, {"picture": 0}, {"picture": not_pictures(5)})
        self.refuses(plan.row, {"side": -1}, {"side": not_places(0)})
        self.assert_exactly(plan.circles, FIVE)


if __name__ == "__main__":
    unittest.main()
